import Derived.Test.YtdkngfdnfekgfaaGreatLod43
import Derived.Test.YtdkngfdnfekgfaaGreatLod44
namespace Go.Proofs.YtdkngfdnfekgfaaGreat
set_option maxRecDepth 100000
open Go.RowKit Tab
set_option linter.unusedSimpArgs false
set_option linter.unusedVariables false
section
variable {σ : Type} {R : Rdr σ} {emb : List UInt8 → σ}
end
theorem Img.wax {l : List UInt8} {x : Cf} (h : Img l x) : l = Crc.seal4 (horaB ++ confE (coreX x)) := by rw [← h.is, bytesB_E h.len]
theorem img_of {w : World} {y : Cf} (h : CfR w y) (hz : (whF y).1 = 0) (hm : ∀ x ∈ y.C, 0 ≤ x.max ∧ x.max ≤ 4294967295) : Img (imB y) y := ⟨RiX.of hz, LenX.of h, hm, NbX.of h, by unfold imB; rw [if_pos hz]⟩
end Go.Proofs.YtdkngfdnfekgfaaGreat
namespace Go.Proofs.YtdkngfdnfekgfaaGreat
set_option maxRecDepth 100000
open Go.RowKit Tab
set_option linter.unusedSimpArgs false
set_option linter.unusedVariables false
theorem img_eq {l k : List UInt8} {x y : Cf} (hx : Img l x) (hy : Img k y) : ((str l).toList == (str k).toList) = sameF x.P x.C x.T y.P y.C y.T := by
  rw [str_toList, str_toList]
  by_cases h : l = k
  · subst h
    rw [beq_self_eq_true, sameF_yes (hx.sam hy)]
  · rw [beq_eq_false_iff_ne.2 h, sameF_no fun hs => h (by rw [hx.wax, hy.wax, sam_core hs])]
set_option maxHeartbeats 2000000 in
theorem sizes_walk (X : Option Addr) (n cap : Nat) (f : Nat → Int) (Y : Option Addr) (m cap2 : Nat) (f2 : Nat → Int) (w : World) (hA : RdC w w.heap.size X n fun j => .int .i64 (f j)) (hn : n ≤ 140737488351232) (hA2 : RdC w w.heap.size Y m fun j => .int .i64 (f2 j)) (hm : m ≤ 140737488351232) :
    Calls Tryz.prog 6 #[.slice X n cap, .slice Y m cap2] w (Ans (.bool true) w) := by
  have HKN := Lib.hid fun V => known14_any V
  have HCF := Lib.hid (tape_rightx X n cap f w hA hn)
  have HA2 := Lib.hid hA2
  have HM := Lib.hid hm
  clear hA hn hA2 hm
  go_enter Tryz.func6, Tryz.ntmps6
  go_wp2_with fail
  refine HCF.out.mono ?_
  rintro e w1 ⟨⟨A1, A2, A3, n1, n2, n3, c1, c2, c3, P, C, T⟩, rfl, hyR, _, hyz, _, _, hmx, hb1⟩
  have HIM := Lib.hid (img_of hyR hyz hmx)
  have HYR := Lib.hid hyR
  have HYZ := Lib.hid hyz
  have HB1 := Lib.hid hb1
  have HCF2 := Lib.hid (tape_rightx Y m cap2 f2 w1 ((HA2.out.below hb1).more hb1.size) HM.out)
  dsimp only [cfv]
  clear hyR hyz hmx hb1 HCF
  go_wp2_with fail
  refine HCF2.out.mono ?_
  rintro e w2 ⟨⟨D1, D2, D3, m1, m2, m3, d1, d2, d3, Q, F, G⟩, rfl, hzR, _, hzz, _, _, hmz, hb2⟩
  dsimp only [cfv]
  have hbx := bl1 w2 (.cells #[.slice A1 n1 c1, .slice A2 n2 c2, .slice A3 n3 c3] 26)
  have hby := bl1 (w2.alloc (.cells #[.slice A1 n1 c1, .slice A2 n2 c2, .slice A3 n3 c3] 26)) (.cells #[.slice D1 m1 d1, .slice D2 m2 d2, .slice D3 m3 d3] 26)
  have hxy := hbx.trans (hby.mono hbx.size)
  have HBX := Lib.hid ((box_vec w2 (.slice A1 n1 c1) (.slice A2 n2 c2) (.slice A3 n3 c3) 26).on hby)
  have hbb := box_vec (w2.alloc (.cells #[.slice A1 n1 c1, .slice A2 n2 c2, .slice A3 n3 c3] 26)) (.slice D1 m1 d1) (.slice D2 m2 d2) (.slice D3 m3 d3) 26
  rw [show (w2.alloc (.cells #[.slice A1 n1 c1, .slice A2 n2 c2, .slice A3 n3 c3] 26)).heap.size = w2.heap.size + 1 from by simp] at hbb
  have HBY := Lib.hid hbb
  have HIN := Lib.hid (img_of hzR hzz hmz)
  have HZR := Lib.hid (hzR.on hxy)
  have HYR2 := Lib.hid ((HYR.out.on hb2).on hxy)
  have HB2 := Lib.hid (HB1.out.trans ((hb2.trans (hxy.mono hb2.size)).mono HB1.out.size))
  have HZZ := Lib.hid hzz
  clear hbb hbx hby hxy hzR hzz hmz hb2 HCF2 HYR HB1
  go_upto_region 2 with fail
  generalize (w2.alloc (.cells #[.slice A1 n1 c1, .slice A2 n2 c2, .slice A3 n3 c3] 26)).alloc (.cells #[.slice D1 m1 d1, .slice D2 m2 d2, .slice D3 m3 d3] 26) = W0 at HBX HBY HZR HYR2 HB2 ⊢
  generalize w2.heap.size + 1 = gy at HBY ⊢
  generalize w2.heap.size = gx at HBX ⊢
  have HC1 := Lib.hid fun V (hv : Below W0.heap.size W0 V) => ibytes_any _ V (HYR2.out.on hv)
  have HC2 := Lib.hid fun V (hv : Below W0.heap.size W0 V) => ibytes_any _ V (HZR.out.on hv)
  have HS1 := Lib.hid fun V (hv : Below W0.heap.size W0 V) => isize_any _ V (HYR2.out.on hv)
  have HS2 := Lib.hid fun V (hv : Below W0.heap.size W0 V) => isize_any _ V (HZR.out.on hv)
  have HSM := Lib.hid fun V (hv : Below W0.heap.size W0 V) => (HYR2.out.on hv).rsame (HZR.out.on hv)
  have HEQ := Lib.hid (img_eq HIM.out HIN.out)
  rw [HYZ.out] at HC1
  rw [HZZ.out] at HC2
  generalize imB ⟨A1, A2, A3, n1, n2, n3, c1, c2, c3, P, C, T⟩ = la at HC1 HS1 HEQ HIM
  generalize imB ⟨D1, D2, D3, m1, m2, m3, d1, d2, d3, Q, F, G⟩ = lb at HC2 HS2 HEQ HIN
  dsimp only [cfv] at HC1 HC2 HS1 HS2 HSM HEQ
  generalize sameF P C T Q F G = qq at HSM HEQ
  obtain ⟨f0, f1, f2⟩ := HBX.out.three
  clear HYZ HZZ HYR2 HZR HIM HIN
  go_upto_region 3 with (go_at_call 17; refine (HC1.out W0 (Below.refl _ _)).mono ?_; rintro e w3 ⟨E1, p, q, rfl, ho3, hb3⟩)
  obtain ⟨g0, g1, g2⟩ := (HBY.out.on hb3).three
  have hln := ho3.len
  rw [hln] at HS1
  clear f0 f1 f2 hln HC1
  go_upto_region 4 with (go_at_call 17; refine (HC2.out w3 hb3).mono ?_; rintro e w4 ⟨E2, r, s, rfl, ho4, hb4⟩)
  have hb5 := hb3.trans (hb4.mono hb3.size)
  obtain ⟨f0, f1, f2⟩ := (HBX.out.on hb5).three
  obtain ⟨j0, j1, j2⟩ := (HBY.out.on hb5).three
  have hln := ho4.len
  rw [hln] at HS2
  have HR1 := Lib.hid (ho3.below rfl (hb4.mono (Nat.le_refl _))).rd
  have HR2 := Lib.hid ho4.rd
  have HB6 := Lib.hid (HB2.out.trans (hb5.mono HB2.out.size))
  have HBV := Lib.hid hb5
  clear ho3 ho4 hb3 hb4 hb5 hln g0 g1 g2 HC2 HBX HBY HB2
  have HSA : Hid (∃ sa, str la = sa) := Lib.hid ⟨_, rfl⟩
  obtain ⟨sa, hsa⟩ := HSA.out
  obtain ⟨sb, hsb⟩ : ∃ sb, str lb = sb := ⟨_, rfl⟩
  rw [hsa, hsb] at HEQ
  have HSA := Lib.hid hsa
  have HSB := Lib.hid hsb
  clear hsa hsb
  refine Rgs.region (by kernel_rfl) (by kernel_rfl) (fun (opn : Nat) (vl : Value) (_ : World) => match opn with | 0 => vl = .int .i64 0 | 1 => vl = .bool true | 2 => vl = .bool true | 3 => vl = .int .i64 0 | 4 => vl = .bool true | 5 => vl = .bool true | 6 => vl = .bool true | 7 => vl = .agg #[.slice A1 n1 c1, .slice A2 n2 c2, .slice A3 n3 c3] | 8 => vl = .int .i64 (p : Int) | 9 => vl = .slice E1 p q | 10 => vl = .int .i64 (p : Int) | 11 => vl = .bool true | 12 => vl = .bool true | 13 => vl = .bool true | 14 => vl = .agg #[.slice D1 m1 d1, .slice D2 m2 d2, .slice D3 m3 d3] | 15 => vl = .int .i64 (r : Int) | 16 => vl = .slice E2 r s | 17 => vl = .int .i64 (r : Int) | 18 => vl = .bool true | 19 => vl = .bool true | 20 => vl = .bool true | 21 => vl = .slice E1 p q | 22 => vl = .string sa | 23 => vl = .slice E2 r s | 24 => vl = .string sb | 25 => vl = .bool qq | 26 => vl = .agg #[.slice A1 n1 c1, .slice A2 n2 c2, .slice A3 n3 c3] | 27 => vl = .agg #[.slice D1 m1 d1, .slice D2 m2 d2, .slice D3 m3 d3] | 28 => vl = .bool qq | 29 => vl = .bool true | 30 => vl = .bool true | 31 => vl = .bool true | 32 => vl = .bool true | 33 => vl = .bool true | 34 => vl = .bool true | _ => True) (fun _ _ w' => Below w4.heap.size w4 w') (Below.refl _ _).drew (Rgs.steps_of ?_) ?_
  · refine ⟨?_, ?_, ?_, ?_, ?_, ?_, ?_, ?_, ?_, ?_, ?_, ?_, ?_, ?_, ?_, ?_, ?_, ?_, ?_, ?_, ?_, ?_, ?_, ?_, ?_, ?_, ?_, ?_, ?_, ?_, ?_, ?_, ?_, ?_, ?_, trivial⟩
    · intro a w1 live S E D C h0 hk hW
      have e8 : a.eval (.tmp 8) = .int .i64 0 := E 8 rfl
      exact Rgs.val rfl (Reg.wanted_free rfl) (.int .i64 0) (by have c := Reg.consts a; generalize a.eval = ρ at *; simp [execOp, go_sem, c.1, c.2, e8]) rfl hW
    · intro a w1 live S E D C h0 hk hW
      have d0 : a.eval (.tmp 29) = .int .i64 0 := D 0 rfl _ _ rfl rfl
      exact Rgs.val rfl (Reg.wanted_free rfl) (.bool true) (by have c := Reg.consts a; generalize a.eval = ρ at *; simp [execOp, go_sem, c.1, c.2, d0]) rfl hW
    · intro a w1 live S E D C h0 hk hW
      have d1 : a.eval (.tmp 30) = .bool true := D 1 rfl _ _ rfl rfl
      exact Rgs.val rfl (Reg.wanted_free rfl) (.bool true) (by have c := Reg.consts a; generalize a.eval = ρ at *; simp [execOp, go_sem, c.1, c.2, d1]) rfl hW
    · intro a w1 live S E D C h0 hk hW
      have dg : a.eval (.tmp 31) = .bool true := D 2 rfl _ _ rfl rfl
      have e10 : a.eval (.tmp 10) = .int .i64 0 := E 10 rfl
      exact Rgs.val rfl (Reg.wanted_if rfl rfl dg rfl) (.int .i64 0) (by have c := Reg.consts a; generalize a.eval = ρ at *; simp [execOp, go_sem, c.1, c.2, e10]) rfl hW
    · intro a w1 live S E D C h0 hk hW
      have dg : a.eval (.tmp 31) = .bool true := D 2 rfl _ _ rfl rfl
      have d3 : a.eval (.tmp 32) = .int .i64 0 := D 3 rfl _ _ rfl rfl
      exact Rgs.val rfl (Reg.wanted_if rfl rfl dg rfl) (.bool true) (by have c := Reg.consts a; generalize a.eval = ρ at *; simp [execOp, go_sem, c.1, c.2, d3]) rfl hW
    · intro a w1 live S E D C h0 hk hW
      have d2 : a.eval (.tmp 31) = .bool true := D 2 rfl _ _ rfl rfl
      have d4 : a.eval (.tmp 33) = .bool true := D 4 rfl _ _ rfl rfl
      exact Rgs.val rfl (Reg.wanted_free rfl) (.bool true) (by have c := Reg.consts a; generalize a.eval = ρ at *; simp [execOp, go_sem, c.1, c.2, d2, d4]) rfl hW
    · intro a w1 live S E D C h0 hk hW
      have d5 : a.eval (.tmp 34) = .bool true := D 5 rfl _ _ rfl rfl
      exact Rgs.val rfl (Reg.wanted_free rfl) (.bool true) (by have c := Reg.consts a; generalize a.eval = ρ at *; simp [execOp, go_sem, c.1, c.2, d5]) rfl hW
    · intro a w1 live S E D C h0 hk hW
      have dg : a.eval (.tmp 35) = .bool true := D 6 rfl _ _ rfl rfl
      have e5 : a.eval (.tmp 5) = .pointer (some ⟨gx, 0, none⟩) := E 5 rfl
      have hc0 := (hW.cell (p := ⟨gx, 0, none⟩) (World.block_lt_of_cell? _ _ f0)).trans f0
      have hc1 := (hW.cell (p := ⟨gx, 1, none⟩) (World.block_lt_of_cell? _ _ f1)).trans f1
      have hc2 := (hW.cell (p := ⟨gx, 2, none⟩) (World.block_lt_of_cell? _ _ f2)).trans f2
      exact Rgs.val rfl (Reg.wanted_if rfl rfl dg rfl) (.agg #[.slice A1 n1 c1, .slice A2 n2 c2, .slice A3 n3 c3]) (by have c := Reg.consts a; generalize a.eval = ρ at *; simp [execOp, go_sem, c.1, c.2, e5, hc0, hc1, hc2]) rfl hW
    · intro a w1 live S E D C h0 hk hW
      have dg : a.eval (.tmp 35) = .bool true := D 6 rfl _ _ rfl rfl
      have d7 : a.eval (.tmp 36) = .agg #[.slice A1 n1 c1, .slice A2 n2 c2, .slice A3 n3 c3] := D 7 rfl _ _ rfl rfl
      refine Rgs.call rfl (Reg.wanted_if rfl rfl dg rfl) 20 #[.agg #[.slice A1 n1 c1, .slice A2 n2 c2, .slice A3 n3 c3]] (by have c := Reg.consts a; generalize a.eval = ρ at *; simp [execOp, go_sem, c.1, c.2, d7]) ?_
      refine (HS1.out w1 (HBV.out.trans (hW.mono HBV.out.size))).mono ?_
      rintro e w5 ⟨rfl, hb5⟩
      exact ⟨_, rfl, rfl, hW.trans (hb5.mono hW.size), fun j v _ h => h⟩
    · intro a w1 live S E D C h0 hk hW
      have dg : a.eval (.tmp 35) = .bool true := D 6 rfl _ _ rfl rfl
      have e7 : a.eval (.tmp 7) = .slice E1 p q := E 7 rfl
      exact Rgs.val rfl (Reg.wanted_if rfl rfl dg rfl) (.slice E1 p q) (by have c := Reg.consts a; generalize a.eval = ρ at *; simp [execOp, go_sem, c.1, c.2, e7]) rfl hW
    · intro a w1 live S E D C h0 hk hW
      have dg : a.eval (.tmp 35) = .bool true := D 6 rfl _ _ rfl rfl
      have d9 : a.eval (.tmp 38) = .slice E1 p q := D 9 rfl _ _ rfl rfl
      exact Rgs.val rfl (Reg.wanted_if rfl rfl dg rfl) (.int .i64 (p : Int)) (by have c := Reg.consts a; generalize a.eval = ρ at *; simp [execOp, go_sem, c.1, c.2, d9]) rfl hW
    · intro a w1 live S E D C h0 hk hW
      have dg : a.eval (.tmp 35) = .bool true := D 6 rfl _ _ rfl rfl
      have d8 : a.eval (.tmp 37) = .int .i64 (p : Int) := D 8 rfl _ _ rfl rfl
      have d10 : a.eval (.tmp 39) = .int .i64 (p : Int) := D 10 rfl _ _ rfl rfl
      exact Rgs.val rfl (Reg.wanted_if rfl rfl dg rfl) (.bool true) (by have c := Reg.consts a; generalize a.eval = ρ at *; simp [execOp, go_sem, c.1, c.2, d8, d10]) rfl hW
    · intro a w1 live S E D C h0 hk hW
      have d6 : a.eval (.tmp 35) = .bool true := D 6 rfl _ _ rfl rfl
      have d11 : a.eval (.tmp 40) = .bool true := D 11 rfl _ _ rfl rfl
      exact Rgs.val rfl (Reg.wanted_free rfl) (.bool true) (by have c := Reg.consts a; generalize a.eval = ρ at *; simp [execOp, go_sem, c.1, c.2, d6, d11]) rfl hW
    · intro a w1 live S E D C h0 hk hW
      have d12 : a.eval (.tmp 41) = .bool true := D 12 rfl _ _ rfl rfl
      exact Rgs.val rfl (Reg.wanted_free rfl) (.bool true) (by have c := Reg.consts a; generalize a.eval = ρ at *; simp [execOp, go_sem, c.1, c.2, d12]) rfl hW
    · intro a w1 live S E D C h0 hk hW
      have dg : a.eval (.tmp 42) = .bool true := D 13 rfl _ _ rfl rfl
      have e6 : a.eval (.tmp 6) = .pointer (some ⟨gy, 0, none⟩) := E 6 rfl
      have hc0 := (hW.cell (p := ⟨gy, 0, none⟩) (World.block_lt_of_cell? _ _ j0)).trans j0
      have hc1 := (hW.cell (p := ⟨gy, 1, none⟩) (World.block_lt_of_cell? _ _ j1)).trans j1
      have hc2 := (hW.cell (p := ⟨gy, 2, none⟩) (World.block_lt_of_cell? _ _ j2)).trans j2
      exact Rgs.val rfl (Reg.wanted_if rfl rfl dg rfl) (.agg #[.slice D1 m1 d1, .slice D2 m2 d2, .slice D3 m3 d3]) (by have c := Reg.consts a; generalize a.eval = ρ at *; simp [execOp, go_sem, c.1, c.2, e6, hc0, hc1, hc2]) rfl hW
    · intro a w1 live S E D C h0 hk hW
      have dg : a.eval (.tmp 42) = .bool true := D 13 rfl _ _ rfl rfl
      have d14 : a.eval (.tmp 43) = .agg #[.slice D1 m1 d1, .slice D2 m2 d2, .slice D3 m3 d3] := D 14 rfl _ _ rfl rfl
      refine Rgs.call rfl (Reg.wanted_if rfl rfl dg rfl) 20 #[.agg #[.slice D1 m1 d1, .slice D2 m2 d2, .slice D3 m3 d3]] (by have c := Reg.consts a; generalize a.eval = ρ at *; simp [execOp, go_sem, c.1, c.2, d14]) ?_
      refine (HS2.out w1 (HBV.out.trans (hW.mono HBV.out.size))).mono ?_
      rintro e w5 ⟨rfl, hb5⟩
      exact ⟨_, rfl, rfl, hW.trans (hb5.mono hW.size), fun j v _ h => h⟩
    · intro a w1 live S E D C h0 hk hW
      have dg : a.eval (.tmp 42) = .bool true := D 13 rfl _ _ rfl rfl
      have e9 : a.eval (.tmp 9) = .slice E2 r s := E 9 rfl
      exact Rgs.val rfl (Reg.wanted_if rfl rfl dg rfl) (.slice E2 r s) (by have c := Reg.consts a; generalize a.eval = ρ at *; simp [execOp, go_sem, c.1, c.2, e9]) rfl hW
    · intro a w1 live S E D C h0 hk hW
      have dg : a.eval (.tmp 42) = .bool true := D 13 rfl _ _ rfl rfl
      have d16 : a.eval (.tmp 45) = .slice E2 r s := D 16 rfl _ _ rfl rfl
      exact Rgs.val rfl (Reg.wanted_if rfl rfl dg rfl) (.int .i64 (r : Int)) (by have c := Reg.consts a; generalize a.eval = ρ at *; simp [execOp, go_sem, c.1, c.2, d16]) rfl hW
    · intro a w1 live S E D C h0 hk hW
      have dg : a.eval (.tmp 42) = .bool true := D 13 rfl _ _ rfl rfl
      have d15 : a.eval (.tmp 44) = .int .i64 (r : Int) := D 15 rfl _ _ rfl rfl
      have d17 : a.eval (.tmp 46) = .int .i64 (r : Int) := D 17 rfl _ _ rfl rfl
      exact Rgs.val rfl (Reg.wanted_if rfl rfl dg rfl) (.bool true) (by have c := Reg.consts a; generalize a.eval = ρ at *; simp [execOp, go_sem, c.1, c.2, d15, d17]) rfl hW
    · intro a w1 live S E D C h0 hk hW
      have d13 : a.eval (.tmp 42) = .bool true := D 13 rfl _ _ rfl rfl
      have d18 : a.eval (.tmp 47) = .bool true := D 18 rfl _ _ rfl rfl
      exact Rgs.val rfl (Reg.wanted_free rfl) (.bool true) (by have c := Reg.consts a; generalize a.eval = ρ at *; simp [execOp, go_sem, c.1, c.2, d13, d18]) rfl hW
    · intro a w1 live S E D C h0 hk hW
      have d19 : a.eval (.tmp 48) = .bool true := D 19 rfl _ _ rfl rfl
      exact Rgs.val rfl (Reg.wanted_free rfl) (.bool true) (by have c := Reg.consts a; generalize a.eval = ρ at *; simp [execOp, go_sem, c.1, c.2, d19]) rfl hW
    · intro a w1 live S E D C h0 hk hW
      have dg : a.eval (.tmp 49) = .bool true := D 20 rfl _ _ rfl rfl
      have e7 : a.eval (.tmp 7) = .slice E1 p q := E 7 rfl
      exact Rgs.val rfl (Reg.wanted_if rfl rfl dg rfl) (.slice E1 p q) (by have c := Reg.consts a; generalize a.eval = ρ at *; simp [execOp, go_sem, c.1, c.2, e7]) rfl hW
    · intro a w1 live S E D C h0 hk hW
      have dg : a.eval (.tmp 49) = .bool true := D 20 rfl _ _ rfl rfl
      have d21 : a.eval (.tmp 50) = .slice E1 p q := D 21 rfl _ _ rfl rfl
      have hcv := run_conv w1 _ E1 p q la (HR1.out.below hW)
      rw [HSA.out] at hcv
      exact Rgs.val rfl (Reg.wanted_if rfl rfl dg rfl) (.string sa) (by have c := Reg.consts a; generalize a.eval = ρ at *; simp [execOp, go_sem, c.1, c.2, d21, hcv]) rfl hW
    · intro a w1 live S E D C h0 hk hW
      have dg : a.eval (.tmp 49) = .bool true := D 20 rfl _ _ rfl rfl
      have e9 : a.eval (.tmp 9) = .slice E2 r s := E 9 rfl
      exact Rgs.val rfl (Reg.wanted_if rfl rfl dg rfl) (.slice E2 r s) (by have c := Reg.consts a; generalize a.eval = ρ at *; simp [execOp, go_sem, c.1, c.2, e9]) rfl hW
    · intro a w1 live S E D C h0 hk hW
      have dg : a.eval (.tmp 49) = .bool true := D 20 rfl _ _ rfl rfl
      have d23 : a.eval (.tmp 52) = .slice E2 r s := D 23 rfl _ _ rfl rfl
      have hcv := run_conv w1 _ E2 r s lb (HR2.out.below hW)
      rw [HSB.out] at hcv
      exact Rgs.val rfl (Reg.wanted_if rfl rfl dg rfl) (.string sb) (by have c := Reg.consts a; generalize a.eval = ρ at *; simp [execOp, go_sem, c.1, c.2, d23, hcv]) rfl hW
    · intro a w1 live S E D C h0 hk hW
      have dg : a.eval (.tmp 49) = .bool true := D 20 rfl _ _ rfl rfl
      have d22 : a.eval (.tmp 51) = .string sa := D 22 rfl _ _ rfl rfl
      have d24 : a.eval (.tmp 53) = .string sb := D 24 rfl _ _ rfl rfl
      have hcq := HEQ.out
      exact Rgs.val rfl (Reg.wanted_if rfl rfl dg rfl) (.bool qq) (by have c := Reg.consts a; generalize a.eval = ρ at *; simp [execOp, go_sem, c.1, c.2, d22, d24, hcq]) rfl hW
    · intro a w1 live S E D C h0 hk hW
      have dg : a.eval (.tmp 49) = .bool true := D 20 rfl _ _ rfl rfl
      have e5 : a.eval (.tmp 5) = .pointer (some ⟨gx, 0, none⟩) := E 5 rfl
      have hc0 := (hW.cell (p := ⟨gx, 0, none⟩) (World.block_lt_of_cell? _ _ f0)).trans f0
      have hc1 := (hW.cell (p := ⟨gx, 1, none⟩) (World.block_lt_of_cell? _ _ f1)).trans f1
      have hc2 := (hW.cell (p := ⟨gx, 2, none⟩) (World.block_lt_of_cell? _ _ f2)).trans f2
      exact Rgs.val rfl (Reg.wanted_if rfl rfl dg rfl) (.agg #[.slice A1 n1 c1, .slice A2 n2 c2, .slice A3 n3 c3]) (by have c := Reg.consts a; generalize a.eval = ρ at *; simp [execOp, go_sem, c.1, c.2, e5, hc0, hc1, hc2]) rfl hW
    · intro a w1 live S E D C h0 hk hW
      have dg : a.eval (.tmp 49) = .bool true := D 20 rfl _ _ rfl rfl
      have e6 : a.eval (.tmp 6) = .pointer (some ⟨gy, 0, none⟩) := E 6 rfl
      have hc0 := (hW.cell (p := ⟨gy, 0, none⟩) (World.block_lt_of_cell? _ _ j0)).trans j0
      have hc1 := (hW.cell (p := ⟨gy, 1, none⟩) (World.block_lt_of_cell? _ _ j1)).trans j1
      have hc2 := (hW.cell (p := ⟨gy, 2, none⟩) (World.block_lt_of_cell? _ _ j2)).trans j2
      exact Rgs.val rfl (Reg.wanted_if rfl rfl dg rfl) (.agg #[.slice D1 m1 d1, .slice D2 m2 d2, .slice D3 m3 d3]) (by have c := Reg.consts a; generalize a.eval = ρ at *; simp [execOp, go_sem, c.1, c.2, e6, hc0, hc1, hc2]) rfl hW
    · intro a w1 live S E D C h0 hk hW
      have dg : a.eval (.tmp 49) = .bool true := D 20 rfl _ _ rfl rfl
      have d26 : a.eval (.tmp 55) = .agg #[.slice A1 n1 c1, .slice A2 n2 c2, .slice A3 n3 c3] := D 26 rfl _ _ rfl rfl
      have d27 : a.eval (.tmp 56) = .agg #[.slice D1 m1 d1, .slice D2 m2 d2, .slice D3 m3 d3] := D 27 rfl _ _ rfl rfl
      refine Rgs.call rfl (Reg.wanted_if rfl rfl dg rfl) 19 #[.agg #[.slice A1 n1 c1, .slice A2 n2 c2, .slice A3 n3 c3], .agg #[.slice D1 m1 d1, .slice D2 m2 d2, .slice D3 m3 d3]] (by have c := Reg.consts a; generalize a.eval = ρ at *; simp [execOp, go_sem, c.1, c.2, d26, d27]) ?_
      refine (HSM.out w1 (HBV.out.trans (hW.mono HBV.out.size))).mono ?_
      rintro e w5 ⟨rfl, hb5⟩
      exact ⟨_, rfl, rfl, hW.trans (hb5.mono hW.size), fun j v _ h => h⟩
    · intro a w1 live S E D C h0 hk hW
      have dg : a.eval (.tmp 49) = .bool true := D 20 rfl _ _ rfl rfl
      have d25 : a.eval (.tmp 54) = .bool qq := D 25 rfl _ _ rfl rfl
      have d28 : a.eval (.tmp 57) = .bool qq := D 28 rfl _ _ rfl rfl
      exact Rgs.val rfl (Reg.wanted_if rfl rfl dg rfl) (.bool true) (by have c := Reg.consts a; generalize a.eval = ρ at *; simp [execOp, go_sem, c.1, c.2, d25, d28]) rfl hW
    · intro a w1 live S E D C h0 hk hW
      have d20 : a.eval (.tmp 49) = .bool true := D 20 rfl _ _ rfl rfl
      have d29 : a.eval (.tmp 58) = .bool true := D 29 rfl _ _ rfl rfl
      exact Rgs.val rfl (Reg.wanted_free rfl) (.bool true) (by have c := Reg.consts a; generalize a.eval = ρ at *; simp [execOp, go_sem, c.1, c.2, d20, d29]) rfl hW
    · intro a w1 live S E D C h0 hk hW
      have d30 : a.eval (.tmp 59) = .bool true := D 30 rfl _ _ rfl rfl
      exact Rgs.val rfl (Reg.wanted_free rfl) (.bool true) (by have c := Reg.consts a; generalize a.eval = ρ at *; simp [execOp, go_sem, c.1, c.2, d30]) rfl hW
    · intro a w1 live S E D C h0 hk hW
      have dg : a.eval (.tmp 60) = .bool true := D 31 rfl _ _ rfl rfl
      refine Rgs.call rfl (Reg.wanted_if rfl rfl dg rfl) 14 #[] (by have c := Reg.consts a; generalize a.eval = ρ at *; simp [execOp, go_sem, c.1, c.2, ]) ?_
      refine (HKN.out w1).mono ?_
      rintro e w5 ⟨rfl, hb5⟩
      exact ⟨_, rfl, rfl, hW.trans (hb5.mono hW.size), fun j v _ h => h⟩
    · intro a w1 live S E D C h0 hk hW
      have d31 : a.eval (.tmp 60) = .bool true := D 31 rfl _ _ rfl rfl
      have d32 : a.eval (.tmp 61) = .bool true := D 32 rfl _ _ rfl rfl
      exact Rgs.val rfl (Reg.wanted_free rfl) (.bool true) (by have c := Reg.consts a; generalize a.eval = ρ at *; simp [execOp, go_sem, c.1, c.2, d31, d32]) rfl hW
    · intro a w1 live S E D C h0 hk hW
      have d33 : a.eval (.tmp 62) = .bool true := D 33 rfl _ _ rfl rfl
      exact Rgs.val rfl (Reg.wanted_free rfl) (.bool true) (by have c := Reg.consts a; generalize a.eval = ρ at *; simp [execOp, go_sem, c.1, c.2, d33]) rfl hW
  · intro a w4 live hs hd E D Hl hW
    have e4 : a.eval (.tmp 4) = .bool true := by
      obtain ⟨v, hv, he⟩ := D 34 _ rfl
      exact (he 4 rfl).trans hv
    rw [Rgs.act_ws a _ _ hs hd E [29, 30, 31, 32, 33, 34, 35, 36, 37, 38, 39, 40, 41, 42, 43, 44, 45, 46, 47, 48, 49, 50, 51, 52, 53, 54, 55, 56, 57, 58, 59, 60, 61, 62, 4] (by kernel_rfl)]
    simp only [List.foldl, List.setIfInBounds_toArray, List.set_cons_succ, List.set_cons_zero, e4]
    have HB9 := Lib.hid (HB6.out.trans (Below.mono hW HB6.out.size))
    have HW9 := Lib.hid hW
    clear E D Hl hW e4 HS1 HS2 HSM HEQ HR1 HR2 HSA HSB HBV f0 f1 f2 j0 j1 j2
    generalize a.eval = ρ
    clear a hs hd
    go_wp2_with fail
    go_ret
    exact Ans.mk rfl HB9.out
end Go.Proofs.YtdkngfdnfekgfaaGreat
