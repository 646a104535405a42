/- Law 12's known: some of chapter 12's runs. -/
import Derived.Test.YtebcfiifaclniaaGreatYi
import Derived.Test.YtebcfiifaclniaaGreatLow7
import Derived.Deep.Cut
namespace Go.Proofs.YtebcfiifaclniaaGreat
open Go.RowKit Tab
set_option linter.unusedSimpArgs false
set_option linter.unusedVariables false

set_option maxRecDepth 100000 in
set_option maxHeartbeats 2000000 in
theorem known12_any (hW : ConfigW) (w : World) : Calls Tryz.prog 8 #[] w (Ans (.bool true) w) := by
  have HWW := Lib.hid hW
  clear hW
  have s0 : w.heap.size = w.heap.size := rfl
  have b0 : Below w.heap.size w w := Below.refl _ _
  obtain ⟨V1, hV1⟩ : ∃ V, V = w.alloc (.cells #[.int .i64 0, .int .i64 0] 41) := ⟨_, rfl⟩
  have u1 : Below w.heap.size w V1 := by rw [hV1]; exact bl1 _ _
  have s1 : V1.heap.size = w.heap.size + 1 := by rw [hV1]; simp [s0]
  have b1 : Below w.heap.size w V1 := b0.trans (u1.mono b0.size)
  have r0 : RdV V1 V1.heap.size (some ⟨w.heap.size, 0, none⟩) [.int .i64 0, .int .i64 0] := by
    have h := rdV_new w #[.int .i64 0, .int .i64 0] 41 [.int .i64 0, .int .i64 0] rfl
    rw [← hV1, s0] at h
    exact h
  obtain ⟨V2, hV2⟩ : ∃ V, V = V1.alloc (.cells #[.string ⟨#[97]⟩, .int .i64 0, .int .i64 0, .bool false, .bool false, .slice (some ⟨w.heap.size, 0, none⟩) 1 1, .int .i64 0, .int .i64 0, .int .i64 0, .int .i64 0, .int .i64 0] 39) := ⟨_, rfl⟩
  have u2 : Below V1.heap.size V1 V2 := by rw [hV2]; exact bl1 _ _
  have s2 : V2.heap.size = w.heap.size + 1 + 1 := by rw [hV2]; simp [s1]
  have b2 : Below w.heap.size w V2 := b1.trans (u2.mono b1.size)
  replace r0 := (r0.below u2).more u2.size
  have r1 : RdV V2 V2.heap.size (some ⟨w.heap.size + 1, 0, none⟩) (pcq (ptA (some ⟨w.heap.size, 0, none⟩))) := by
    have h := rdV_new V1 #[.string ⟨#[97]⟩, .int .i64 0, .int .i64 0, .bool false, .bool false, .slice (some ⟨w.heap.size, 0, none⟩) 1 1, .int .i64 0, .int .i64 0, .int .i64 0, .int .i64 0, .int .i64 0] 39 (pcq (ptA (some ⟨w.heap.size, 0, none⟩))) rfl
    rw [← hV2, s1] at h
    exact h
  obtain ⟨V3, hV3⟩ : ∃ V, V = V2.alloc (.cells #[.int .i64 1, .int .i64 0, .int .i64 1] 43) := ⟨_, rfl⟩
  have u3 : Below V2.heap.size V2 V3 := by rw [hV3]; exact bl1 _ _
  have s3 : V3.heap.size = w.heap.size + 1 + 1 + 1 := by rw [hV3]; simp [s2]
  have b3 : Below w.heap.size w V3 := b2.trans (u3.mono b2.size)
  replace r0 := (r0.below u3).more u3.size
  replace r1 := (r1.below u3).more u3.size
  have r2 : RdV V3 V3.heap.size (some ⟨w.heap.size + 1 + 1, 0, none⟩) [.int .i64 1, .int .i64 0, .int .i64 1] := by
    have h := rdV_new V2 #[.int .i64 1, .int .i64 0, .int .i64 1] 43 [.int .i64 1, .int .i64 0, .int .i64 1] rfl
    rw [← hV3, s2] at h
    exact h
  obtain ⟨V4, hV4⟩ : ∃ V, V = V3.alloc (.cells #[.slice (some ⟨w.heap.size + 1 + 1, 0, none⟩) 1 1] 44) := ⟨_, rfl⟩
  have u4 : Below V3.heap.size V3 V4 := by rw [hV4]; exact bl1 _ _
  have s4 : V4.heap.size = w.heap.size + 1 + 1 + 1 + 1 := by rw [hV4]; simp [s3]
  have b4 : Below w.heap.size w V4 := b3.trans (u4.mono b3.size)
  replace r0 := (r0.below u4).more u4.size
  replace r1 := (r1.below u4).more u4.size
  replace r2 := (r2.below u4).more u4.size
  have r3 : RdV V4 V4.heap.size (some ⟨w.heap.size + 1 + 1 + 1, 0, none⟩) [.slice (some ⟨w.heap.size + 1 + 1, 0, none⟩) 1 1] := by
    have h := rdV_new V3 #[.slice (some ⟨w.heap.size + 1 + 1, 0, none⟩) 1 1] 44 [.slice (some ⟨w.heap.size + 1 + 1, 0, none⟩) 1 1] rfl
    rw [← hV4, s3] at h
    exact h
  obtain ⟨V5, hV5⟩ : ∃ V, V = V4.alloc (.cells #[.slice (some ⟨w.heap.size + 1, 0, none⟩) 1 1, .slice none 0 0, .slice (some ⟨w.heap.size + 1 + 1 + 1, 0, none⟩) 1 1] 27) := ⟨_, rfl⟩
  have u5 : Below V4.heap.size V4 V5 := by rw [hV5]; exact bl1 _ _
  have s5 : V5.heap.size = w.heap.size + 1 + 1 + 1 + 1 + 1 := by rw [hV5]; simp [s4]
  have b5 : Below w.heap.size w V5 := b4.trans (u5.mono b4.size)
  replace r0 := (r0.below u5).more u5.size
  replace r1 := (r1.below u5).more u5.size
  replace r2 := (r2.below u5).more u5.size
  replace r3 := (r3.below u5).more u5.size
  have x4 := box_vec V4 (.slice (some ⟨w.heap.size + 1, 0, none⟩) 1 1) (.slice none 0 0) (.slice (some ⟨w.heap.size + 1 + 1 + 1, 0, none⟩) 1 1) 27
  rw [← hV5, s4] at x4
  obtain ⟨V6, hV6⟩ : ∃ V, V = V5.alloc (.cells #[.slice (some ⟨w.heap.size + 1, 0, none⟩) 1 1, .slice (some ⟨w.heap.size + 1 + 1 + 1 + 1 + 1 + 1, 0, none⟩) 1 1, .slice (some ⟨w.heap.size + 1 + 1 + 1, 0, none⟩) 1 1] 27) := ⟨_, rfl⟩
  have u6 : Below V5.heap.size V5 V6 := by rw [hV6]; exact bl1 _ _
  have s6 : V6.heap.size = w.heap.size + 1 + 1 + 1 + 1 + 1 + 1 := by rw [hV6]; simp [s5]
  have b6 : Below w.heap.size w V6 := b5.trans (u6.mono b5.size)
  replace r0 := (r0.below u6).more u6.size
  replace r1 := (r1.below u6).more u6.size
  replace r2 := (r2.below u6).more u6.size
  replace r3 := (r3.below u6).more u6.size
  replace x4 := x4.on u6
  have x5 := box_vec V5 (.slice (some ⟨w.heap.size + 1, 0, none⟩) 1 1) (.slice (some ⟨w.heap.size + 1 + 1 + 1 + 1 + 1 + 1, 0, none⟩) 1 1) (.slice (some ⟨w.heap.size + 1 + 1 + 1, 0, none⟩) 1 1) 27
  rw [← hV6, s5] at x5
  obtain ⟨V7, hV7⟩ : ∃ V, V = V6.alloc (.cells #[.int .i64 0, .int .i64 0, .bool false, .int .i64 0, .int .u32 0, .int .i64 0] 47) := ⟨_, rfl⟩
  have u7 : Below V6.heap.size V6 V7 := by rw [hV7]; exact bl1 _ _
  have s7 : V7.heap.size = w.heap.size + 1 + 1 + 1 + 1 + 1 + 1 + 1 := by rw [hV7]; simp [s6]
  have b7 : Below w.heap.size w V7 := b6.trans (u7.mono b6.size)
  replace r0 := (r0.below u7).more u7.size
  replace r1 := (r1.below u7).more u7.size
  replace r2 := (r2.below u7).more u7.size
  replace r3 := (r3.below u7).more u7.size
  replace x4 := x4.on u7
  replace x5 := x5.on u7
  have r6 : RdV V7 V7.heap.size (some ⟨w.heap.size + 1 + 1 + 1 + 1 + 1 + 1, 0, none⟩) (cc chA) := by
    have h := rdV_new V6 #[.int .i64 0, .int .i64 0, .bool false, .int .i64 0, .int .u32 0, .int .i64 0] 47 (cc chA) rfl
    rw [← hV7, s6] at h
    exact h
  have HV1 := Lib.hid hV1
  have HV2 := Lib.hid hV2
  have HV3 := Lib.hid hV3
  have HV4 := Lib.hid hV4
  have HV5 := Lib.hid hV5
  have HV6 := Lib.hid hV6
  have HV7 := Lib.hid hV7
  have HB7 := Lib.hid b7
  have HA : Hid (CfR V7 (cfA (some ⟨w.heap.size + 1, 0, none⟩) (some ⟨w.heap.size + 1 + 1 + 1, 0, none⟩) (some ⟨w.heap.size, 0, none⟩) (some ⟨w.heap.size + 1 + 1, 0, none⟩))) := Lib.hid (cfA_rd r0 r1 r2 r3)
  have HD : Hid (CfR V7 (cfD (some ⟨w.heap.size + 1, 0, none⟩) (some ⟨w.heap.size + 1 + 1 + 1 + 1 + 1 + 1, 0, none⟩) (some ⟨w.heap.size + 1 + 1 + 1, 0, none⟩) (some ⟨w.heap.size, 0, none⟩) (some ⟨w.heap.size + 1 + 1, 0, none⟩))) := Lib.hid (cfD_rd r0 r1 r2 r3 r6)
  have HX4 := Lib.hid fun V (hv : Below V7.heap.size V7 V) => (x4.on hv).three
  have HX5 := Lib.hid fun V (hv : Below V7.heap.size V7 V) => (x5.on hv).three
  clear hV1 hV2 hV3 hV4 hV5 hV6 hV7 u1 u2 u3 u4 u5 u6 u7 s0 s1 s2 s3 s4 s5 s6 s7 b0 b1 b2 b3 b4 b5 b6 b7 r0 r1 r2 r3 r6 x4 x5
  go_enter Tryz.func8, Tryz.ntmps8
  go_upto_region 4 with fail
  rw [← HV1.out, ← HV2.out, ← HV3.out, ← HV4.out, ← HV5.out, ← HV6.out, ← HV7.out]
  clear HV1 HV2 HV3 HV4 HV5 HV6 HV7
  generalize w.heap.size + 1 + 1 + 1 + 1 + 1 + 1 = g6 at HA HD HX4 HX5 ⊢
  generalize w.heap.size + 1 + 1 + 1 + 1 + 1 = g5 at HA HD HX4 HX5 ⊢
  generalize w.heap.size + 1 + 1 + 1 + 1 = g4 at HA HD HX4 HX5 ⊢
  generalize w.heap.size + 1 + 1 + 1 = g3 at HA HD HX4 HX5 ⊢
  generalize w.heap.size + 1 + 1 = g2 at HA HD HX4 HX5 ⊢
  generalize w.heap.size + 1 = g1 at HA HD HX4 HX5 ⊢
  obtain ⟨g0, hg0⟩ : ∃ g0, g0 = w.heap.size := ⟨_, rfl⟩
  rw [← hg0] at HA HD ⊢
  clear hg0
  have HWA := Lib.hid fun V (hv : Below V7.heap.size V7 V) => HWW.out.where_ _ V (HA.out.on hv)
  have HWD := Lib.hid fun V (hv : Below V7.heap.size V7 V) => HWW.out.where_ _ V (HD.out.on hv)
  have HRZ := Lib.hid fun V (hv : Below V7.heap.size V7 V) => HWW.out.right cfZ V (cfZ_rd V)
  have HRA := Lib.hid fun V (hv : Below V7.heap.size V7 V) => HWW.out.right _ V (HA.out.on hv)
  rw [whF_A] at HWA HRA
  rw [whF_D] at HWD
  rw [whF_Z] at HRZ
  have HN1 := Lib.hid fun V => HWW.out.name ⟨#[49, 97]⟩ V (by show 2 ≤ 140737488351232; omega)
  have HN2 := Lib.hid fun V => HWW.out.name ⟨#[97, 95, 49]⟩ V (by show 3 ≤ 140737488351232; omega)
  rw [nameF_1] at HN1
  rw [nameF_2] at HN2
  have HCP : Hid (∀ V, Below V7.heap.size V7 V → Calls Tryz.prog 5 #[.agg #[.slice (some ⟨g1, 0, none⟩) 1 1, .slice none 0 0, .slice (some ⟨g3, 0, none⟩) 1 1]] V (CpA (cfA (some ⟨g1, 0, none⟩) (some ⟨g3, 0, none⟩) (some ⟨g0, 0, none⟩) (some ⟨g2, 0, none⟩)) V)) := Lib.hid fun V hv => HWW.out.copy _ V (HA.out.on hv)
  have HS1 : Hid (∀ V, Below V7.heap.size V7 V → ∀ y, CfR V y → SamX y (cfA (some ⟨g1, 0, none⟩) (some ⟨g3, 0, none⟩) (some ⟨g0, 0, none⟩) (some ⟨g2, 0, none⟩)) → Calls Tryz.prog 6 #[.agg #[.slice (some ⟨g1, 0, none⟩) 1 1, .slice none 0 0, .slice (some ⟨g3, 0, none⟩) 1 1], cfv y] V (Ans (.bool true) V)) := Lib.hid fun V hv y hy hs => by
    have h := HWW.out.same _ y V (HA.out.on hv) hy
    rw [sameF_yes hs.symm] at h
    exact h
  have HS2 : Hid (∀ V, Below V7.heap.size V7 V → Calls Tryz.prog 6 #[.agg #[.slice (some ⟨g1, 0, none⟩) 1 1, .slice none 0 0, .slice (some ⟨g3, 0, none⟩) 1 1], .agg #[.slice (some ⟨g1, 0, none⟩) 1 1, .slice (some ⟨g6, 0, none⟩) 1 1, .slice (some ⟨g3, 0, none⟩) 1 1]] V (Ans (.bool false) V)) := Lib.hid fun V hv => by
    have h := HWW.out.same _ _ V (HA.out.on hv) (HD.out.on hv)
    rw [not_sameAD] at h
    exact h
  generalize cfA (some ⟨g1, 0, none⟩) (some ⟨g3, 0, none⟩) (some ⟨g0, 0, none⟩) (some ⟨g2, 0, none⟩) = x at HCP HS1
  clear HA HD HWW
  obtain ⟨n0, n1, n2⟩ := HX5.out V7 (Below.refl _ _)
  go_wp2_with fail
  refine (HWD.out V7 (Below.refl _ _)).mono ?_
  rintro e w1 ⟨rfl, hb1⟩
  have HB1 := Lib.hid hb1
  obtain ⟨m0, m1, m2⟩ := HX4.out w1 hb1
  clear n0 n1 n2 hb1
  go_wp2_with fail
  refine (HWA.out w1 HB1.out).mono ?_
  rintro e w2 ⟨rfl, hb2⟩
  have HB2 := Lib.hid (HB1.out.trans (hb2.mono HB1.out.size))
  clear m0 m1 m2 hb2
  obtain ⟨m0, m1, m2⟩ := HX4.out w2 HB2.out
  obtain ⟨n0, n1, n2⟩ := HX5.out w2 HB2.out
  have HR1 := Lib.hid fun V (hv : Below w2.heap.size w2 V) => HRZ.out V (HB2.out.trans (hv.mono HB2.out.size))
  have HR2 := Lib.hid fun V (hv : Below w2.heap.size w2 V) => HRA.out V (HB2.out.trans (hv.mono HB2.out.size))
  have HDP := Lib.hid fun V (hv : Below w2.heap.size w2 V) => HCP.out V (HB2.out.trans (hv.mono HB2.out.size))
  have HE1 := Lib.hid fun V (hv : Below w2.heap.size w2 V) => HS1.out V (HB2.out.trans (hv.mono HB2.out.size))
  have HE2 := Lib.hid fun V (hv : Below w2.heap.size w2 V) => HS2.out V (HB2.out.trans (hv.mono HB2.out.size))
  have HFF := Lib.hid (HB7.out.trans (HB2.out.mono HB7.out.size))
  clear HX4 HX5 HWA HWD HRZ HRA HCP HS1 HS2
  go_upto_region 6 with fail
  refine Rgs.region (by kernel_rfl) (by kernel_rfl) (fun (opn : Nat) (vl : Value) (wv : World) => match opn with | 0 => vl = .agg #[.slice none 0 0, .slice none 0 0, .slice none 0 0] | 1 => vl = .int .i64 3 | 2 => vl = .bool true | 3 => vl = .bool true | 4 => vl = .agg #[.slice (some ⟨g1, 0, none⟩) 1 1, .slice none 0 0, .slice (some ⟨g3, 0, none⟩) 1 1] | 5 => vl = .int .i64 0 | 6 => vl = .bool true | 7 => vl = .bool true | 8 => vl = .bool true | 9 => vl = .int .i64 17 | 10 => vl = .bool true | 11 => vl = .bool true | 12 => vl = .bool true | 13 => vl = .int .i64 0 | 14 => vl = .bool true | 15 => vl = .bool true | 16 => vl = .bool true | 17 => vl = .int .i64 0 | 18 => vl = .bool true | 19 => vl = .bool true | 20 => vl = .bool true | 21 => vl = .int .i64 (-1) | 22 => vl = .bool true | 23 => vl = .bool true | 24 => vl = .bool true | 25 => vl = .bool false | 26 => vl = .bool true | 27 => vl = .bool true | 28 => vl = .bool true | 29 => vl = .bool true | 30 => vl = .bool true | 31 => vl = .bool true | 32 => vl = .agg #[.slice (some ⟨g1, 0, none⟩) 1 1, .slice none 0 0, .slice (some ⟨g3, 0, none⟩) 1 1] | 33 => vl = .agg #[.slice (some ⟨g1, 0, none⟩) 1 1, .slice none 0 0, .slice (some ⟨g3, 0, none⟩) 1 1] | 34 => CpV x vl wv | 35 => vl = .bool true | 36 => vl = .bool true | 37 => vl = .bool true | 38 => vl = .agg #[.slice (some ⟨g1, 0, none⟩) 1 1, .slice none 0 0, .slice (some ⟨g3, 0, none⟩) 1 1] | 39 => vl = .agg #[.slice (some ⟨g1, 0, none⟩) 1 1, .slice (some ⟨g6, 0, none⟩) 1 1, .slice (some ⟨g3, 0, none⟩) 1 1] | 40 => vl = .bool false | 41 => vl = .bool true | 42 => vl = .bool true | 43 => vl = .bool true | _ => True) (fun _ _ w' => Below w2.heap.size w2 w') (Below.refl _ _).drew (Rgs.steps_of ?_) ?_
  · refine ⟨?_, ?_, ?_, ?_, ?_, ?_, ?_, ?_, ?_, ?_, ?_, ?_, ?_, ?_, ?_, ?_, ?_, ?_, ?_, ?_, ?_, ?_, ?_, ?_, ?_, ?_, ?_, ?_, ?_, ?_, ?_, ?_, ?_, ?_, ?_, ?_, ?_, ?_, ?_, ?_, ?_, ?_, ?_, ?_, trivial⟩
    · intro a w1 live S E D C h0 hk hW
      exact Rgs.val rfl (Reg.wanted_free rfl) (.agg #[.slice none 0 0, .slice none 0 0, .slice none 0 0]) (by have c := Reg.consts a; generalize a.eval = ρ at *; simp [execOp, go_sem, c.1, c.2, go_sem]) rfl hW
    · intro a w1 live S E D C h0 hk hW
      have d0 : a.eval (.tmp 29) = .agg #[.slice none 0 0, .slice none 0 0, .slice none 0 0] := D 0 rfl _ _ rfl rfl
      have d0 : a.eval (.tmp 29) = .agg #[.slice none 0 0, .slice none 0 0, .slice none 0 0] := D 0 rfl _ _ rfl rfl
      refine Rgs.call rfl (Reg.wanted_free rfl) 28 #[.agg #[.slice none 0 0, .slice none 0 0, .slice none 0 0]] (by have c := Reg.consts a; generalize a.eval = ρ at *; simp [execOp, go_sem, c.1, c.2, d0]) ?_
      refine (HR1.out w1 hW).mono ?_
      rintro e w5 ⟨rfl, hb5⟩
      exact ⟨_, rfl, rfl, hW.trans (hb5.mono hW.size), fun jq vq _ hq => by
          revert hq
          match jq with
          | 34 => exact fun h => h.on hb5
          | 0 | 1 | 2 | 3 | 4 | 5 | 6 | 7 | 8 | 9 | 10 | 11 | 12 | 13 | 14 | 15 | 16 | 17 | 18 | 19 | 20 | 21 | 22 | 23 | 24 | 25 | 26 | 27 | 28 | 29 | 30 | 31 | 32 | 33 | 35 | 36 | 37 | 38 | 39 | 40 | 41 | 42 | 43 | _ + 44 => exact fun h => h⟩
    · intro a w1 live S E D C h0 hk hW
      have d1 : a.eval (.tmp 30) = .int .i64 3 := D 1 rfl _ _ rfl rfl
      exact Rgs.val rfl (Reg.wanted_free rfl) (.bool true) (by have c := Reg.consts a; generalize a.eval = ρ at *; simp [execOp, go_sem, c.1, c.2, d1]) rfl hW
    · intro a w1 live S E D C h0 hk hW
      have d2 : a.eval (.tmp 31) = .bool true := D 2 rfl _ _ rfl rfl
      exact Rgs.val rfl (Reg.wanted_free rfl) (.bool true) (by have c := Reg.consts a; generalize a.eval = ρ at *; simp [execOp, go_sem, c.1, c.2, d2]) rfl hW
    · intro a w1 live S E D C h0 hk hW
      have dg : a.eval (.tmp 32) = .bool true := D 3 rfl _ _ rfl rfl
      have e1 : a.eval (.tmp 1) = .pointer (some ⟨g4, 0, none⟩) := E 1 rfl
      have hc0 := (hW.cell (p := ⟨g4, 0, none⟩) (World.block_lt_of_cell? _ _ m0)).trans m0
      have hc1 := (hW.cell (p := ⟨g4, 1, none⟩) (World.block_lt_of_cell? _ _ m1)).trans m1
      have hc2 := (hW.cell (p := ⟨g4, 2, none⟩) (World.block_lt_of_cell? _ _ m2)).trans m2
      exact Rgs.val rfl (Reg.wanted_if rfl rfl dg rfl) (.agg #[.slice (some ⟨g1, 0, none⟩) 1 1, .slice none 0 0, .slice (some ⟨g3, 0, none⟩) 1 1]) (by have c := Reg.consts a; generalize a.eval = ρ at *; simp [execOp, go_sem, c.1, c.2, e1, hc0, hc1, hc2]) rfl hW
    · intro a w1 live S E D C h0 hk hW
      have dg : a.eval (.tmp 32) = .bool true := D 3 rfl _ _ rfl rfl
      have d4 : a.eval (.tmp 33) = .agg #[.slice (some ⟨g1, 0, none⟩) 1 1, .slice none 0 0, .slice (some ⟨g3, 0, none⟩) 1 1] := D 4 rfl _ _ rfl rfl
      have dg : a.eval (.tmp 32) = .bool true := D 3 rfl _ _ rfl rfl
      have d4 : a.eval (.tmp 33) = .agg #[.slice (some ⟨g1, 0, none⟩) 1 1, .slice none 0 0, .slice (some ⟨g3, 0, none⟩) 1 1] := D 4 rfl _ _ rfl rfl
      refine Rgs.call rfl (Reg.wanted_if rfl rfl dg rfl) 28 #[.agg #[.slice (some ⟨g1, 0, none⟩) 1 1, .slice none 0 0, .slice (some ⟨g3, 0, none⟩) 1 1]] (by have c := Reg.consts a; generalize a.eval = ρ at *; simp [execOp, go_sem, c.1, c.2, d4]) ?_
      refine (HR2.out w1 hW).mono ?_
      rintro e w5 ⟨rfl, hb5⟩
      exact ⟨_, rfl, rfl, hW.trans (hb5.mono hW.size), fun jq vq _ hq => by
          revert hq
          match jq with
          | 34 => exact fun h => h.on hb5
          | 0 | 1 | 2 | 3 | 4 | 5 | 6 | 7 | 8 | 9 | 10 | 11 | 12 | 13 | 14 | 15 | 16 | 17 | 18 | 19 | 20 | 21 | 22 | 23 | 24 | 25 | 26 | 27 | 28 | 29 | 30 | 31 | 32 | 33 | 35 | 36 | 37 | 38 | 39 | 40 | 41 | 42 | 43 | _ + 44 => exact fun h => h⟩
    · intro a w1 live S E D C h0 hk hW
      have dg : a.eval (.tmp 32) = .bool true := D 3 rfl _ _ rfl rfl
      have d5 : a.eval (.tmp 34) = .int .i64 0 := D 5 rfl _ _ rfl rfl
      exact Rgs.val rfl (Reg.wanted_if rfl rfl dg rfl) (.bool true) (by have c := Reg.consts a; generalize a.eval = ρ at *; simp [execOp, go_sem, c.1, c.2, d5]) rfl hW
    · intro a w1 live S E D C h0 hk hW
      have d3 : a.eval (.tmp 32) = .bool true := D 3 rfl _ _ rfl rfl
      have d6 : a.eval (.tmp 35) = .bool true := D 6 rfl _ _ rfl rfl
      exact Rgs.val rfl (Reg.wanted_free rfl) (.bool true) (by have c := Reg.consts a; generalize a.eval = ρ at *; simp [execOp, go_sem, c.1, c.2, d3, d6]) rfl hW
    · intro a w1 live S E D C h0 hk hW
      have d7 : a.eval (.tmp 36) = .bool true := D 7 rfl _ _ rfl rfl
      exact Rgs.val rfl (Reg.wanted_free rfl) (.bool true) (by have c := Reg.consts a; generalize a.eval = ρ at *; simp [execOp, go_sem, c.1, c.2, d7]) rfl hW
    · intro a w1 live S E D C h0 hk hW
      have dg : a.eval (.tmp 37) = .bool true := D 8 rfl _ _ rfl rfl
      have e3 : a.eval (.tmp 3) = .int .i64 17 := E 3 rfl
      exact Rgs.val rfl (Reg.wanted_if rfl rfl dg rfl) (.int .i64 17) (by have c := Reg.consts a; generalize a.eval = ρ at *; simp [execOp, go_sem, c.1, c.2, e3]) rfl hW
    · intro a w1 live S E D C h0 hk hW
      have dg : a.eval (.tmp 37) = .bool true := D 8 rfl _ _ rfl rfl
      have d9 : a.eval (.tmp 38) = .int .i64 17 := D 9 rfl _ _ rfl rfl
      exact Rgs.val rfl (Reg.wanted_if rfl rfl dg rfl) (.bool true) (by have c := Reg.consts a; generalize a.eval = ρ at *; simp [execOp, go_sem, c.1, c.2, d9]) rfl hW
    · intro a w1 live S E D C h0 hk hW
      have d8 : a.eval (.tmp 37) = .bool true := D 8 rfl _ _ rfl rfl
      have d10 : a.eval (.tmp 39) = .bool true := D 10 rfl _ _ rfl rfl
      exact Rgs.val rfl (Reg.wanted_free rfl) (.bool true) (by have c := Reg.consts a; generalize a.eval = ρ at *; simp [execOp, go_sem, c.1, c.2, d8, d10]) rfl hW
    · intro a w1 live S E D C h0 hk hW
      have d11 : a.eval (.tmp 40) = .bool true := D 11 rfl _ _ rfl rfl
      exact Rgs.val rfl (Reg.wanted_free rfl) (.bool true) (by have c := Reg.consts a; generalize a.eval = ρ at *; simp [execOp, go_sem, c.1, c.2, d11]) rfl hW
    · intro a w1 live S E D C h0 hk hW
      have dg : a.eval (.tmp 41) = .bool true := D 12 rfl _ _ rfl rfl
      have e4 : a.eval (.tmp 4) = .int .i64 0 := E 4 rfl
      exact Rgs.val rfl (Reg.wanted_if rfl rfl dg rfl) (.int .i64 0) (by have c := Reg.consts a; generalize a.eval = ρ at *; simp [execOp, go_sem, c.1, c.2, e4]) rfl hW
    · intro a w1 live S E D C h0 hk hW
      have dg : a.eval (.tmp 41) = .bool true := D 12 rfl _ _ rfl rfl
      have d13 : a.eval (.tmp 42) = .int .i64 0 := D 13 rfl _ _ rfl rfl
      exact Rgs.val rfl (Reg.wanted_if rfl rfl dg rfl) (.bool true) (by have c := Reg.consts a; generalize a.eval = ρ at *; simp [execOp, go_sem, c.1, c.2, d13]) rfl hW
    · intro a w1 live S E D C h0 hk hW
      have d12 : a.eval (.tmp 41) = .bool true := D 12 rfl _ _ rfl rfl
      have d14 : a.eval (.tmp 43) = .bool true := D 14 rfl _ _ rfl rfl
      exact Rgs.val rfl (Reg.wanted_free rfl) (.bool true) (by have c := Reg.consts a; generalize a.eval = ρ at *; simp [execOp, go_sem, c.1, c.2, d12, d14]) rfl hW
    · intro a w1 live S E D C h0 hk hW
      have d15 : a.eval (.tmp 44) = .bool true := D 15 rfl _ _ rfl rfl
      exact Rgs.val rfl (Reg.wanted_free rfl) (.bool true) (by have c := Reg.consts a; generalize a.eval = ρ at *; simp [execOp, go_sem, c.1, c.2, d15]) rfl hW
    · intro a w1 live S E D C h0 hk hW
      have dg : a.eval (.tmp 45) = .bool true := D 16 rfl _ _ rfl rfl
      have e5 : a.eval (.tmp 5) = .int .i64 0 := E 5 rfl
      exact Rgs.val rfl (Reg.wanted_if rfl rfl dg rfl) (.int .i64 0) (by have c := Reg.consts a; generalize a.eval = ρ at *; simp [execOp, go_sem, c.1, c.2, e5]) rfl hW
    · intro a w1 live S E D C h0 hk hW
      have dg : a.eval (.tmp 45) = .bool true := D 16 rfl _ _ rfl rfl
      have d17 : a.eval (.tmp 46) = .int .i64 0 := D 17 rfl _ _ rfl rfl
      exact Rgs.val rfl (Reg.wanted_if rfl rfl dg rfl) (.bool true) (by have c := Reg.consts a; generalize a.eval = ρ at *; simp [execOp, go_sem, c.1, c.2, d17]) rfl hW
    · intro a w1 live S E D C h0 hk hW
      have d16 : a.eval (.tmp 45) = .bool true := D 16 rfl _ _ rfl rfl
      have d18 : a.eval (.tmp 47) = .bool true := D 18 rfl _ _ rfl rfl
      exact Rgs.val rfl (Reg.wanted_free rfl) (.bool true) (by have c := Reg.consts a; generalize a.eval = ρ at *; simp [execOp, go_sem, c.1, c.2, d16, d18]) rfl hW
    · intro a w1 live S E D C h0 hk hW
      have d19 : a.eval (.tmp 48) = .bool true := D 19 rfl _ _ rfl rfl
      exact Rgs.val rfl (Reg.wanted_free rfl) (.bool true) (by have c := Reg.consts a; generalize a.eval = ρ at *; simp [execOp, go_sem, c.1, c.2, d19]) rfl hW
    · intro a w1 live S E D C h0 hk hW
      have dg : a.eval (.tmp 49) = .bool true := D 20 rfl _ _ rfl rfl
      have e6 : a.eval (.tmp 6) = .int .i64 (-1) := E 6 rfl
      exact Rgs.val rfl (Reg.wanted_if rfl rfl dg rfl) (.int .i64 (-1)) (by have c := Reg.consts a; generalize a.eval = ρ at *; simp [execOp, go_sem, c.1, c.2, e6]) rfl hW
    · intro a w1 live S E D C h0 hk hW
      have dg : a.eval (.tmp 49) = .bool true := D 20 rfl _ _ rfl rfl
      have d21 : a.eval (.tmp 50) = .int .i64 (-1) := D 21 rfl _ _ rfl rfl
      exact Rgs.val rfl (Reg.wanted_if rfl rfl dg rfl) (.bool true) (by have c := Reg.consts a; generalize a.eval = ρ at *; simp [execOp, go_sem, c.1, c.2, d21]) rfl hW
    · intro a w1 live S E D C h0 hk hW
      have d20 : a.eval (.tmp 49) = .bool true := D 20 rfl _ _ rfl rfl
      have d22 : a.eval (.tmp 51) = .bool true := D 22 rfl _ _ rfl rfl
      exact Rgs.val rfl (Reg.wanted_free rfl) (.bool true) (by have c := Reg.consts a; generalize a.eval = ρ at *; simp [execOp, go_sem, c.1, c.2, d20, d22]) rfl hW
    · intro a w1 live S E D C h0 hk hW
      have d23 : a.eval (.tmp 52) = .bool true := D 23 rfl _ _ rfl rfl
      exact Rgs.val rfl (Reg.wanted_free rfl) (.bool true) (by have c := Reg.consts a; generalize a.eval = ρ at *; simp [execOp, go_sem, c.1, c.2, d23]) rfl hW
    · intro a w1 live S E D C h0 hk hW
      have dg : a.eval (.tmp 53) = .bool true := D 24 rfl _ _ rfl rfl
      have dg : a.eval (.tmp 53) = .bool true := D 24 rfl _ _ rfl rfl
      refine Rgs.call rfl (Reg.wanted_if rfl rfl dg rfl) 29 #[.string ⟨#[49, 97]⟩] (by have c := Reg.consts a; generalize a.eval = ρ at *; simp [execOp, go_sem, c.1, c.2, go_sem]) ?_
      refine (HN1.out w1).mono ?_
      rintro e w5 ⟨rfl, hb5⟩
      exact ⟨_, rfl, rfl, hW.trans (hb5.mono hW.size), fun jq vq _ hq => by
          revert hq
          match jq with
          | 34 => exact fun h => h.on hb5
          | 0 | 1 | 2 | 3 | 4 | 5 | 6 | 7 | 8 | 9 | 10 | 11 | 12 | 13 | 14 | 15 | 16 | 17 | 18 | 19 | 20 | 21 | 22 | 23 | 24 | 25 | 26 | 27 | 28 | 29 | 30 | 31 | 32 | 33 | 35 | 36 | 37 | 38 | 39 | 40 | 41 | 42 | 43 | _ + 44 => exact fun h => h⟩
    · intro a w1 live S E D C h0 hk hW
      have dg : a.eval (.tmp 53) = .bool true := D 24 rfl _ _ rfl rfl
      have d25 : a.eval (.tmp 54) = .bool false := D 25 rfl _ _ rfl rfl
      exact Rgs.val rfl (Reg.wanted_if rfl rfl dg rfl) (.bool true) (by have c := Reg.consts a; generalize a.eval = ρ at *; simp [execOp, go_sem, c.1, c.2, d25]) rfl hW
    · intro a w1 live S E D C h0 hk hW
      have d24 : a.eval (.tmp 53) = .bool true := D 24 rfl _ _ rfl rfl
      have d26 : a.eval (.tmp 55) = .bool true := D 26 rfl _ _ rfl rfl
      exact Rgs.val rfl (Reg.wanted_free rfl) (.bool true) (by have c := Reg.consts a; generalize a.eval = ρ at *; simp [execOp, go_sem, c.1, c.2, d24, d26]) rfl hW
    · intro a w1 live S E D C h0 hk hW
      have d27 : a.eval (.tmp 56) = .bool true := D 27 rfl _ _ rfl rfl
      exact Rgs.val rfl (Reg.wanted_free rfl) (.bool true) (by have c := Reg.consts a; generalize a.eval = ρ at *; simp [execOp, go_sem, c.1, c.2, d27]) rfl hW
    · intro a w1 live S E D C h0 hk hW
      have dg : a.eval (.tmp 57) = .bool true := D 28 rfl _ _ rfl rfl
      have dg : a.eval (.tmp 57) = .bool true := D 28 rfl _ _ rfl rfl
      refine Rgs.call rfl (Reg.wanted_if rfl rfl dg rfl) 29 #[.string ⟨#[97, 95, 49]⟩] (by have c := Reg.consts a; generalize a.eval = ρ at *; simp [execOp, go_sem, c.1, c.2, go_sem]) ?_
      refine (HN2.out w1).mono ?_
      rintro e w5 ⟨rfl, hb5⟩
      exact ⟨_, rfl, rfl, hW.trans (hb5.mono hW.size), fun jq vq _ hq => by
          revert hq
          match jq with
          | 34 => exact fun h => h.on hb5
          | 0 | 1 | 2 | 3 | 4 | 5 | 6 | 7 | 8 | 9 | 10 | 11 | 12 | 13 | 14 | 15 | 16 | 17 | 18 | 19 | 20 | 21 | 22 | 23 | 24 | 25 | 26 | 27 | 28 | 29 | 30 | 31 | 32 | 33 | 35 | 36 | 37 | 38 | 39 | 40 | 41 | 42 | 43 | _ + 44 => exact fun h => h⟩
    · intro a w1 live S E D C h0 hk hW
      have d28 : a.eval (.tmp 57) = .bool true := D 28 rfl _ _ rfl rfl
      have d29 : a.eval (.tmp 58) = .bool true := D 29 rfl _ _ rfl rfl
      exact Rgs.val rfl (Reg.wanted_free rfl) (.bool true) (by have c := Reg.consts a; generalize a.eval = ρ at *; simp [execOp, go_sem, c.1, c.2, d28, d29]) rfl hW
    · intro a w1 live S E D C h0 hk hW
      have d30 : a.eval (.tmp 59) = .bool true := D 30 rfl _ _ rfl rfl
      exact Rgs.val rfl (Reg.wanted_free rfl) (.bool true) (by have c := Reg.consts a; generalize a.eval = ρ at *; simp [execOp, go_sem, c.1, c.2, d30]) rfl hW
    · intro a w1 live S E D C h0 hk hW
      have dg : a.eval (.tmp 60) = .bool true := D 31 rfl _ _ rfl rfl
      have e1 : a.eval (.tmp 1) = .pointer (some ⟨g4, 0, none⟩) := E 1 rfl
      have hc0 := (hW.cell (p := ⟨g4, 0, none⟩) (World.block_lt_of_cell? _ _ m0)).trans m0
      have hc1 := (hW.cell (p := ⟨g4, 1, none⟩) (World.block_lt_of_cell? _ _ m1)).trans m1
      have hc2 := (hW.cell (p := ⟨g4, 2, none⟩) (World.block_lt_of_cell? _ _ m2)).trans m2
      exact Rgs.val rfl (Reg.wanted_if rfl rfl dg rfl) (.agg #[.slice (some ⟨g1, 0, none⟩) 1 1, .slice none 0 0, .slice (some ⟨g3, 0, none⟩) 1 1]) (by have c := Reg.consts a; generalize a.eval = ρ at *; simp [execOp, go_sem, c.1, c.2, e1, hc0, hc1, hc2]) rfl hW
    · intro a w1 live S E D C h0 hk hW
      have dg : a.eval (.tmp 60) = .bool true := D 31 rfl _ _ rfl rfl
      have e1 : a.eval (.tmp 1) = .pointer (some ⟨g4, 0, none⟩) := E 1 rfl
      have hc0 := (hW.cell (p := ⟨g4, 0, none⟩) (World.block_lt_of_cell? _ _ m0)).trans m0
      have hc1 := (hW.cell (p := ⟨g4, 1, none⟩) (World.block_lt_of_cell? _ _ m1)).trans m1
      have hc2 := (hW.cell (p := ⟨g4, 2, none⟩) (World.block_lt_of_cell? _ _ m2)).trans m2
      exact Rgs.val rfl (Reg.wanted_if rfl rfl dg rfl) (.agg #[.slice (some ⟨g1, 0, none⟩) 1 1, .slice none 0 0, .slice (some ⟨g3, 0, none⟩) 1 1]) (by have c := Reg.consts a; generalize a.eval = ρ at *; simp [execOp, go_sem, c.1, c.2, e1, hc0, hc1, hc2]) rfl hW
    · intro a w1 live S E D C h0 hk hW
      have dg : a.eval (.tmp 60) = .bool true := D 31 rfl _ _ rfl rfl
      have d33 : a.eval (.tmp 62) = .agg #[.slice (some ⟨g1, 0, none⟩) 1 1, .slice none 0 0, .slice (some ⟨g3, 0, none⟩) 1 1] := D 33 rfl _ _ rfl rfl
      have dg : a.eval (.tmp 60) = .bool true := D 31 rfl _ _ rfl rfl
      have d33 : a.eval (.tmp 62) = .agg #[.slice (some ⟨g1, 0, none⟩) 1 1, .slice none 0 0, .slice (some ⟨g3, 0, none⟩) 1 1] := D 33 rfl _ _ rfl rfl
      refine Rgs.call rfl (Reg.wanted_if rfl rfl dg rfl) 5 #[.agg #[.slice (some ⟨g1, 0, none⟩) 1 1, .slice none 0 0, .slice (some ⟨g3, 0, none⟩) 1 1]] (by have c := Reg.consts a; generalize a.eval = ρ at *; simp [execOp, go_sem, c.1, c.2, d33]) ?_
      refine (HDP.out w1 hW).mono ?_
      rintro e w5 ⟨y, rfl, hyR, hyS, hyo, hb5⟩
      exact ⟨_, rfl, ⟨y, rfl, hyR, hyS⟩, hW.trans (hb5.mono hW.size), fun jq vq _ hq => by
          revert hq
          match jq with
          | 34 => exact fun h => h.on hb5
          | 0 | 1 | 2 | 3 | 4 | 5 | 6 | 7 | 8 | 9 | 10 | 11 | 12 | 13 | 14 | 15 | 16 | 17 | 18 | 19 | 20 | 21 | 22 | 23 | 24 | 25 | 26 | 27 | 28 | 29 | 30 | 31 | 32 | 33 | 35 | 36 | 37 | 38 | 39 | 40 | 41 | 42 | 43 | _ + 44 => exact fun h => h⟩
    · intro a w1 live S E D C h0 hk hW
      have dg : a.eval (.tmp 60) = .bool true := D 31 rfl _ _ rfl rfl
      have d32 : a.eval (.tmp 61) = .agg #[.slice (some ⟨g1, 0, none⟩) 1 1, .slice none 0 0, .slice (some ⟨g3, 0, none⟩) 1 1] := D 32 rfl _ _ rfl rfl
      have dg : a.eval (.tmp 60) = .bool true := D 31 rfl _ _ rfl rfl
      have d32 : a.eval (.tmp 61) = .agg #[.slice (some ⟨g1, 0, none⟩) 1 1, .slice none 0 0, .slice (some ⟨g3, 0, none⟩) 1 1] := D 32 rfl _ _ rfl rfl
      obtain ⟨y, d34, hyR, hyS⟩ := D 34 rfl _ _ rfl rfl
      have d34 : a.eval (.tmp 63) = .agg #[.slice y.A1 y.n1 y.c1, .slice y.A2 y.n2 y.c2, .slice y.A3 y.n3 y.c3] := d34
      refine Rgs.call rfl (Reg.wanted_if rfl rfl dg rfl) 6 #[.agg #[.slice (some ⟨g1, 0, none⟩) 1 1, .slice none 0 0, .slice (some ⟨g3, 0, none⟩) 1 1], .agg #[.slice y.A1 y.n1 y.c1, .slice y.A2 y.n2 y.c2, .slice y.A3 y.n3 y.c3]] (by have c := Reg.consts a; generalize a.eval = ρ at *; simp [execOp, go_sem, c.1, c.2, d32, d34]) ?_
      refine (HE1.out w1 hW y hyR hyS).mono ?_
      rintro e w5 ⟨rfl, hb5⟩
      exact ⟨_, rfl, rfl, hW.trans (hb5.mono hW.size), fun jq vq _ hq => by
          revert hq
          match jq with
          | 34 => exact fun h => h.on hb5
          | 0 | 1 | 2 | 3 | 4 | 5 | 6 | 7 | 8 | 9 | 10 | 11 | 12 | 13 | 14 | 15 | 16 | 17 | 18 | 19 | 20 | 21 | 22 | 23 | 24 | 25 | 26 | 27 | 28 | 29 | 30 | 31 | 32 | 33 | 35 | 36 | 37 | 38 | 39 | 40 | 41 | 42 | 43 | _ + 44 => exact fun h => h⟩
    · intro a w1 live S E D C h0 hk hW
      have d31 : a.eval (.tmp 60) = .bool true := D 31 rfl _ _ rfl rfl
      have d35 : a.eval (.tmp 64) = .bool true := D 35 rfl _ _ rfl rfl
      exact Rgs.val rfl (Reg.wanted_free rfl) (.bool true) (by have c := Reg.consts a; generalize a.eval = ρ at *; simp [execOp, go_sem, c.1, c.2, d31, d35]) rfl hW
    · intro a w1 live S E D C h0 hk hW
      have d36 : a.eval (.tmp 65) = .bool true := D 36 rfl _ _ rfl rfl
      exact Rgs.val rfl (Reg.wanted_free rfl) (.bool true) (by have c := Reg.consts a; generalize a.eval = ρ at *; simp [execOp, go_sem, c.1, c.2, d36]) rfl hW
    · intro a w1 live S E D C h0 hk hW
      have dg : a.eval (.tmp 66) = .bool true := D 37 rfl _ _ rfl rfl
      have e1 : a.eval (.tmp 1) = .pointer (some ⟨g4, 0, none⟩) := E 1 rfl
      have hc0 := (hW.cell (p := ⟨g4, 0, none⟩) (World.block_lt_of_cell? _ _ m0)).trans m0
      have hc1 := (hW.cell (p := ⟨g4, 1, none⟩) (World.block_lt_of_cell? _ _ m1)).trans m1
      have hc2 := (hW.cell (p := ⟨g4, 2, none⟩) (World.block_lt_of_cell? _ _ m2)).trans m2
      exact Rgs.val rfl (Reg.wanted_if rfl rfl dg rfl) (.agg #[.slice (some ⟨g1, 0, none⟩) 1 1, .slice none 0 0, .slice (some ⟨g3, 0, none⟩) 1 1]) (by have c := Reg.consts a; generalize a.eval = ρ at *; simp [execOp, go_sem, c.1, c.2, e1, hc0, hc1, hc2]) rfl hW
    · intro a w1 live S E D C h0 hk hW
      have dg : a.eval (.tmp 66) = .bool true := D 37 rfl _ _ rfl rfl
      have e2 : a.eval (.tmp 2) = .pointer (some ⟨g5, 0, none⟩) := E 2 rfl
      have hc0 := (hW.cell (p := ⟨g5, 0, none⟩) (World.block_lt_of_cell? _ _ n0)).trans n0
      have hc1 := (hW.cell (p := ⟨g5, 1, none⟩) (World.block_lt_of_cell? _ _ n1)).trans n1
      have hc2 := (hW.cell (p := ⟨g5, 2, none⟩) (World.block_lt_of_cell? _ _ n2)).trans n2
      exact Rgs.val rfl (Reg.wanted_if rfl rfl dg rfl) (.agg #[.slice (some ⟨g1, 0, none⟩) 1 1, .slice (some ⟨g6, 0, none⟩) 1 1, .slice (some ⟨g3, 0, none⟩) 1 1]) (by have c := Reg.consts a; generalize a.eval = ρ at *; simp [execOp, go_sem, c.1, c.2, e2, hc0, hc1, hc2]) rfl hW
    · intro a w1 live S E D C h0 hk hW
      have dg : a.eval (.tmp 66) = .bool true := D 37 rfl _ _ rfl rfl
      have d38 : a.eval (.tmp 67) = .agg #[.slice (some ⟨g1, 0, none⟩) 1 1, .slice none 0 0, .slice (some ⟨g3, 0, none⟩) 1 1] := D 38 rfl _ _ rfl rfl
      have d39 : a.eval (.tmp 68) = .agg #[.slice (some ⟨g1, 0, none⟩) 1 1, .slice (some ⟨g6, 0, none⟩) 1 1, .slice (some ⟨g3, 0, none⟩) 1 1] := D 39 rfl _ _ rfl rfl
      have dg : a.eval (.tmp 66) = .bool true := D 37 rfl _ _ rfl rfl
      have d38 : a.eval (.tmp 67) = .agg #[.slice (some ⟨g1, 0, none⟩) 1 1, .slice none 0 0, .slice (some ⟨g3, 0, none⟩) 1 1] := D 38 rfl _ _ rfl rfl
      have d39 : a.eval (.tmp 68) = .agg #[.slice (some ⟨g1, 0, none⟩) 1 1, .slice (some ⟨g6, 0, none⟩) 1 1, .slice (some ⟨g3, 0, none⟩) 1 1] := D 39 rfl _ _ rfl rfl
      refine Rgs.call rfl (Reg.wanted_if rfl rfl dg rfl) 6 #[.agg #[.slice (some ⟨g1, 0, none⟩) 1 1, .slice none 0 0, .slice (some ⟨g3, 0, none⟩) 1 1], .agg #[.slice (some ⟨g1, 0, none⟩) 1 1, .slice (some ⟨g6, 0, none⟩) 1 1, .slice (some ⟨g3, 0, none⟩) 1 1]] (by have c := Reg.consts a; generalize a.eval = ρ at *; simp [execOp, go_sem, c.1, c.2, d38, d39]) ?_
      refine (HE2.out w1 hW).mono ?_
      rintro e w5 ⟨rfl, hb5⟩
      exact ⟨_, rfl, rfl, hW.trans (hb5.mono hW.size), fun jq vq _ hq => by
          revert hq
          match jq with
          | 34 => exact fun h => h.on hb5
          | 0 | 1 | 2 | 3 | 4 | 5 | 6 | 7 | 8 | 9 | 10 | 11 | 12 | 13 | 14 | 15 | 16 | 17 | 18 | 19 | 20 | 21 | 22 | 23 | 24 | 25 | 26 | 27 | 28 | 29 | 30 | 31 | 32 | 33 | 35 | 36 | 37 | 38 | 39 | 40 | 41 | 42 | 43 | _ + 44 => exact fun h => h⟩
    · intro a w1 live S E D C h0 hk hW
      have dg : a.eval (.tmp 66) = .bool true := D 37 rfl _ _ rfl rfl
      have d40 : a.eval (.tmp 69) = .bool false := D 40 rfl _ _ rfl rfl
      exact Rgs.val rfl (Reg.wanted_if rfl rfl dg rfl) (.bool true) (by have c := Reg.consts a; generalize a.eval = ρ at *; simp [execOp, go_sem, c.1, c.2, d40]) rfl hW
    · intro a w1 live S E D C h0 hk hW
      have d37 : a.eval (.tmp 66) = .bool true := D 37 rfl _ _ rfl rfl
      have d41 : a.eval (.tmp 70) = .bool true := D 41 rfl _ _ rfl rfl
      exact Rgs.val rfl (Reg.wanted_free rfl) (.bool true) (by have c := Reg.consts a; generalize a.eval = ρ at *; simp [execOp, go_sem, c.1, c.2, d37, d41]) rfl hW
    · intro a w1 live S E D C h0 hk hW
      have d42 : a.eval (.tmp 71) = .bool true := D 42 rfl _ _ rfl rfl
      exact Rgs.val rfl (Reg.wanted_free rfl) (.bool true) (by have c := Reg.consts a; generalize a.eval = ρ at *; simp [execOp, go_sem, c.1, c.2, d42]) rfl hW
  · intro a w9 live hs hd E Dv Hl hW
    have e0 : a.eval (.tmp 0) = .bool true := by
      obtain ⟨v, hv, he⟩ := Dv 43 _ rfl
      exact (he 0 rfl).trans hv
    rw [Reg.act_lit a 72 hs, hd]
    simp only [List.range, List.range.loop, List.map, e0]
    have HB9 := Lib.hid (HFF.out.trans (hW.mono HFF.out.size))
    clear E Dv Hl hW e0 m0 m1 m2 n0 n1 n2
    generalize a.eval = ρ
    clear a hs hd
    go_wp2_with fail
    go_ret
    exact Ans.mk rfl HB9.out
end Go.Proofs.YtebcfiifaclniaaGreat
