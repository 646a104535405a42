/- Chapter 10's runs. -/
import Derived.Test.YtoaocdmcjjohgaaLow9
import Derived.Test.YtoaocdmcjjohgaaLow10
import Derived.Test.YtoaocdmcjjohgaaWkno
import Derived.Test.YtoaocdmcjjohgaaLow6
namespace Go.Proofs.Ytoaocdmcjjohgaa
open Go.RowKit Tab
set_option linter.unusedSimpArgs false
set_option linter.unusedVariables false

def L10 : List Rn := [⟨0, 1⟩, ⟨1, 2⟩, ⟨0, 3⟩]
def P10 : List PtV := [zP, zP]
theorem k10_1 : allF (depW 0 fun _ _ => false) [0, 1, 0] = [⟨0, 2, false⟩, ⟨0, 2, true⟩] := by kernel_rfl
theorem k10_2 : doZ L10 0 2 false = [⟨0, 4⟩, ⟨1, 2⟩] := by kernel_rfl
theorem k10_3 : doZ L10 0 2 true = [⟨1, 2⟩, ⟨0, 4⟩] := by kernel_rfl
theorem k10_4 : allF (depW 0 fun _ _ => false) [0] = [] := by kernel_rfl
theorem k10_5 : mayZ (depW 0 fun _ _ => false) [0, 1, 0] 0 0 = false := by kernel_rfl
theorem k10_6 : mayZ (depW 2 fun _ _ => true) [0, 1, 0] 0 2 = false := by kernel_rfl
theorem k10_7 : doZ L10 5 9 false = L10 := by kernel_rfl
theorem k10_8 : (mayZ (depW P10.length (depF (P10.map ptOf) (([] : List ChV).map chOf))) [0, 1, 0] 0 2 && decide (holdsF (wordsL ([⟨0, 4⟩, ⟨1, 2⟩] : List Rn)) P10 [] = 0)) = true := by kernel_rfl
theorem made_2 : (madeCells #[.string ⟨#[]⟩, .int .i64 0, .int .i64 0, .bool false, .bool false, .slice none 0 0, .int .i64 0, .int .i64 0, .int .i64 0, .int .i64 0, .int .i64 0] 22).toList = P10.flatMap pcl := by kernel_rfl
theorem make_2 (W : World) : (Instr.makeSlice 27 (.int .i64 2) (.int .i64 2)).run Try.prog W = .ok (.slice (some ⟨W.heap.size, 0, none⟩) 2 2) (W.alloc (.cells (madeCells #[.string ⟨#[]⟩, .int .i64 0, .int .i64 0, .bool false, .bool false, .slice none 0 0, .int .i64 0, .int .i64 0, .int .i64 0, .int .i64 0, .int .i64 0] 22) 64)) := run_makeP 2 (by omega) W
def KnoV10 (ga g1 g3 c4 c5 c6 : Nat) (a5 a6 : Addr) (j : Nat) (v : Value) (w : World) : Prop :=
  match j with
  | 0 => v = .slice (some ⟨ga, 0, none⟩) 2 c4
  | 1 => v = .int .i64 2
  | 2 => v = .bool true
  | 3 => v = .bool true
  | 4 => v = .slice (some ⟨ga, 0, none⟩) 2 c4
  | 5 => v = .pointer (some ⟨ga, 0, none⟩)
  | 6 => v = .pointer (some ⟨ga, 2, none⟩)
  | 7 => v = .bool false
  | 8 => v = .bool true
  | 9 => v = .bool true
  | 10 => v = .bool true
  | 11 => v = .slice (some ⟨ga, 0, none⟩) 2 c4
  | 12 => v = .pointer (some ⟨ga, 3, none⟩)
  | 13 => v = .pointer (some ⟨ga, 5, none⟩)
  | 14 => v = .bool true
  | 15 => v = .bool true
  | 16 => v = .bool true
  | 17 => v = .slice (some a5) 2 c5
  | 18 => v = .int .i64 2
  | 19 => v = .bool true
  | 20 => v = .bool true
  | 21 => v = .bool true
  | 22 => v = .slice (some a5) 2 c5
  | 23 => v = .pointer (some a5)
  | 24 => v = .agg #[.int .i64 0, .int .i64 4]
  | 25 => v = .agg #[.int .i64 0, .int .i64 4]
  | 26 => v = .bool true
  | 27 => v = .bool true
  | 28 => v = .bool true
  | 29 => v = .slice (some a6) 2 c6
  | 30 => v = .pointer (some (a6.add 2))
  | 31 => v = .agg #[.int .i64 0, .int .i64 4]
  | 32 => v = .agg #[.int .i64 0, .int .i64 4]
  | 33 => v = .bool true
  | 34 => v = .bool true
  | 35 => v = .bool true
  | 36 => v = .slice (some ⟨g1, 0, none⟩) 3 3
  | 37 => v = .slice (some ⟨g1, 0, none⟩) 1 3
  | 38 => RowL 0 v
  | 39 => v = .int .i64 0
  | 40 => v = .bool true
  | 41 => v = .bool true
  | 42 => v = .bool true
  | 43 => v = .slice (some ⟨g1, 0, none⟩) 3 3
  | 44 => v = .agg #[.int .i64 0, .int .i64 0, .bool false]
  | 45 => v = .bool false
  | 46 => v = .bool true
  | 47 => v = .bool true
  | 48 => v = .bool true
  | 49 => v = .slice (some ⟨g1, 0, none⟩) 3 3
  | 50 => BoxW v w
  | 51 => BoxW v w
  | 52 => MtW 2 (fun _ _ => true) v w
  | 53 => v = .slice (some ⟨ga, 0, none⟩) 2 c4
  | 54 => v = .pointer (some ⟨ga, 0, none⟩)
  | 55 => v = .agg #[.int .i64 0, .int .i64 2, .bool false]
  | 56 => v = .bool false
  | 57 => v = .bool true
  | 58 => v = .bool true
  | 59 => v = .bool true
  | 60 => v = .slice (some ⟨g1, 0, none⟩) 3 3
  | 61 => v = .agg #[.int .i64 5, .int .i64 9, .bool false]
  | 62 => RowL 3 v
  | 63 => v = .int .i64 3
  | 64 => v = .bool true
  | 65 => v = .bool true
  | 66 => v = .bool true
  | 67 => v = .agg #[.slice (some ⟨g3, 0, none⟩) 2 2, .slice none 0 0, .slice none 0 0]
  | 68 => v = .slice (some ⟨g1, 0, none⟩) 3 3
  | 69 => v = .slice (some ⟨ga, 0, none⟩) 2 c4
  | 70 => v = .pointer (some ⟨ga, 0, none⟩)
  | 71 => v = .agg #[.int .i64 0, .int .i64 2, .bool false]
  | 72 => v = .bool true
  | 73 => v = .bool true
  | 74 => v = .bool true
  | _ => True
theorem KnoV10.on {ga g1 g3 c4 c5 c6 : Nat} {a5 a6 : Addr} {w w' : World} (hb : Below w.heap.size w w') (j : Nat) (v : Value) (h : KnoV10 ga g1 g3 c4 c5 c6 a5 a6 j v w) : KnoV10 ga g1 g3 c4 c5 c6 a5 a6 j v w' := by
  unfold KnoV10 at h ⊢
  split at h <;> first | exact h | exact MtW.on h hb | exact BoxW.on h hb
set_option maxRecDepth 100000 in
set_option maxHeartbeats 4000000 in
theorem known10_any (w : World) : Calls Try.prog 12 #[] w (Ans (.bool true) w) := by
  have hmk := make_2
  obtain ⟨Z, hZ⟩ : ∃ Z, Z = madeCells #[.string ⟨#[]⟩, .int .i64 0, .int .i64 0, .bool false, .bool false, .slice none 0 0, .int .i64 0, .int .i64 0, .int .i64 0, .int .i64 0, .int .i64 0] 22 := ⟨_, rfl⟩
  have HZL : Hid (Z.toList = P10.flatMap pcl) := Lib.hid (by rw [hZ]; exact made_2)
  rw [← hZ] at hmk
  clear hZ
  have HMK := Lib.hid hmk
  have hb0 := bl1 w (.cells #[.int .i64 0, .int .i64 1, .int .i64 1, .int .i64 2, .int .i64 0, .int .i64 3] 39)
  have hrl : RdR (w.alloc (.cells #[.int .i64 0, .int .i64 1, .int .i64 1, .int .i64 2, .int .i64 0, .int .i64 3] 39)) (w.alloc (.cells #[.int .i64 0, .int .i64 1, .int .i64 1, .int .i64 2, .int .i64 0, .int .i64 3] 39)).heap.size (some ⟨w.heap.size, 0, none⟩) 3 L10 := ⟨rfl, rdV_new w _ _ _ rfl⟩
  have HB0 := Lib.hid hb0
  clear hmk
  go_enter Try.func12, Try.ntmps12
  go_upto_region 2 with fail
  obtain ⟨g1, hg1⟩ : ∃ g1, g1 = w.heap.size := ⟨_, rfl⟩
  rw [← hg1] at hrl ⊢
  clear hg1 hb0
  generalize w.alloc (.cells #[.int .i64 0, .int .i64 1, .int .i64 1, .int .i64 2, .int .i64 0, .int .i64 3] 39) = W0 at HB0 hrl ⊢
  have HRL := Lib.hid fun W (hb : Below W0.heap.size W0 W) => hrl.on hb
  have hr1 : RdR W0 W0.heap.size (some ⟨g1, 0, none⟩) 1 [⟨0, 1⟩] := ⟨rfl, fun _ => by
    obtain ⟨ad, e, hb, hc⟩ := hrl.rd (by decide)
    refine ⟨ad, e, hb, fun j v hj => hc j v ?_⟩
    match j with
    | 0 => exact hj
    | 1 => exact hj
    | j + 2 => simp [rs] at hj⟩
  have HR1 := Lib.hid fun W (hb : Below W0.heap.size W0 W) => hr1.on hb
  clear hrl hr1
  have CA := Lib.hid fun W (hb : Below W0.heap.size W0 W) => all_any (some ⟨g1, 0, none⟩) none 3 3 0 0 [0, 1, 0] (fun _ _ => false) W (HRL.out W hb).rdp (RdM.none _ _ _ _) (by omega) (by omega) (by omega)
  rw [k10_1] at CA
  have CD1 := Lib.hid fun W (hb : Below W0.heap.size W0 W) => do_any (some ⟨g1, 0, none⟩) 3 3 L10 0 2 false W (HRL.out W hb) (by omega) (by omega) (by decide)
  rw [k10_2] at CD1
  have CD4 := Lib.hid CD1.out
  have HRD := Lib.hid fun W (hb : Below W0.heap.size W0 W) => (HRL.out W hb).rdp
  have CD2 := Lib.hid fun W (hb : Below W0.heap.size W0 W) => do_any (some ⟨g1, 0, none⟩) 3 3 L10 0 2 true W (HRL.out W hb) (by omega) (by omega) (by decide)
  rw [k10_3] at CD2
  have CD3 := Lib.hid fun W (hb : Below W0.heap.size W0 W) => do_any (some ⟨g1, 0, none⟩) 3 3 L10 5 9 false W (HRL.out W hb) (by omega) (by omega) (by decide)
  rw [k10_7] at CD3
  have CA2 := Lib.hid fun W (hb : Below W0.heap.size W0 W) => all_any (some ⟨g1, 0, none⟩) none 1 3 0 0 [0] (fun _ _ => false) W (HR1.out W hb).rdp (RdM.none _ _ _ _) (by omega) (by omega) (by omega)
  rw [k10_4] at CA2
  have CM1 := Lib.hid fun W (hb : Below W0.heap.size W0 W) => may_any (some ⟨g1, 0, none⟩) none 3 3 0 0 [0, 1, 0] (fun _ _ => false) 0 0 false W (HRL.out W hb).rdp (RdM.none _ _ _ _) (by omega) (by omega) (by omega)
  rw [k10_5] at CM1
  go_wp2_with fail
  refine (CA.out W0 (Below.refl _ _)).mono ?_
  rintro e w1 ⟨A4, c4, rfl, how4, hb1⟩
  have HK1 := Lib.hid hb1
  obtain ⟨ga, rfl, hga, hgaw⟩ := how4.block (by decide)
  have HOW := Lib.hid fun W (hb : Below w1.heap.size w1 W) => how4.below hb
  clear hb1 how4 CA hga hgaw
  go_wp2_with fail
  refine (CD1.out w1 HK1.out).mono ?_
  rintro e w2 ⟨A5, c5, rfl, hr5, hc5, hb2⟩
  have HK2 := Lib.hid (HK1.out.trans (hb2.mono HK1.out.size))
  have HJ2 := Lib.hid hb2
  have HR5 := Lib.hid hr5
  clear hb2 hr5 CD1
  go_wp2_with fail
  refine (CD2.out w2 HK2.out).mono ?_
  rintro e w3 ⟨A6, c6, rfl, hr6, hc6, hb3⟩
  have HK3 := Lib.hid (HK2.out.trans (hb3.mono HK2.out.size))
  have HJ3 := Lib.hid (HJ2.out.trans (hb3.mono HJ2.out.size))
  have HR5' := Lib.hid (HR5.out.on hb3)
  have HR6 := Lib.hid hr6
  clear hb3 hr6 CD2 HR5
  have hmk := HMK.out w3
  obtain ⟨W, hW⟩ : ∃ W, W = (w3.alloc (.cells Z 64)).alloc (.cells #[.slice (some ⟨w3.heap.size, 0, none⟩) 2 2, .slice none 0 0, .slice none 0 0] 31) := ⟨_, rfl⟩
  have hbW : Below w3.heap.size w3 W := by rw [hW]; exact (bl1 w3 _).alloc (by simp) _
  have hP : RdB pcl W W.heap.size (some ⟨w3.heap.size, 0, none⟩) 2 P10 := by
    rw [hW]
    exact RdB.on (⟨rfl, rdV_new w3 Z 64 _ HZL.out⟩ : RdB pcl (w3.alloc (.cells Z 64)) (w3.alloc (.cells Z 64)).heap.size (some ⟨w3.heap.size, 0, none⟩) 2 P10) (bl1 _ _)
  have hbox : Vec W (w3.heap.size + 1) 3 fun j => if j = 0 then .slice (some ⟨w3.heap.size, 0, none⟩) 2 2 else if j = 1 then .slice none 0 0 else .slice none 0 0 := by
    have := box_vec (w3.alloc (.cells Z 64)) (.slice (some ⟨w3.heap.size, 0, none⟩) 2 2) (.slice none 0 0) (.slice none 0 0) 31
    have e : (w3.alloc (.cells Z 64)).heap.size = w3.heap.size + 1 := by simp
    rw [e] at this
    rw [hW]
    exact this
  have HKW := Lib.hid (HK3.out.trans (hbW.mono HK3.out.size))
  have HJW := Lib.hid (HJ3.out.trans (hbW.mono HJ3.out.size))
  have HCF := Lib.hid (⟨hP, ⟨rfl, RdV.nil⟩⟩ : CfW W W.heap.size (some ⟨w3.heap.size, 0, none⟩) none 2 0 P10 [])
  have HBX := Lib.hid hbox
  obtain ⟨a5, r0, rfl, _, hq0, _, _⟩ := HR5'.out.at_ (i := 0) (by decide)
  injection hq0 with hq0
  subst hq0
  obtain ⟨a6, r1, rfl, _, hq1, _, _⟩ := HR6.out.at_ (i := 1) (by decide)
  injection hq1 with hq1
  subst hq1
  have HA0 : Hid (a5.add 0 = a5) := Lib.hid (by simp [Addr.add])
  have HRX := Lib.hid fun W' (hb : Below W.heap.size W W') => (HR5'.out.on (hbW.trans (hb.mono hbW.size)))
  have HRY := Lib.hid fun W' (hb : Below W.heap.size W W') => (HR6.out.on (hbW.trans (hb.mono hbW.size)))
  have HCE : Hid (∀ W', Below W.heap.size W W' → W'.cell? ⟨ga, 0, none⟩ = some (.int .i64 0) ∧ W'.cell? ⟨ga, 1, none⟩ = some (.int .i64 2) ∧ W'.cell? ⟨ga, 2, none⟩ = some (.bool false) ∧ W'.cell? ⟨ga, 5, none⟩ = some (.bool true) ∧ W'.cell? a5 = some (.int .i64 0) ∧ W'.cell? ⟨a5.block, a5.off + 1, none⟩ = some (.int .i64 4) ∧ W'.cell? ⟨a6.block, a6.off + 2, none⟩ = some (.int .i64 0) ∧ W'.cell? ⟨a6.block, a6.off + 2 + 1, none⟩ = some (.int .i64 4) ∧ W'.cell? ⟨w3.heap.size + 1, 0, none⟩ = some (.slice (some ⟨w3.heap.size, 0, none⟩) 2 2) ∧ W'.cell? ⟨w3.heap.size + 1, 1, none⟩ = some (.slice none 0 0) ∧ W'.cell? ⟨w3.heap.size + 1, 2, none⟩ = some (.slice none 0 0)) := Lib.hid fun W' hb => by
    have how := HOW.out W' (HJW.out.trans (hb.mono HJW.out.size))
    obtain ⟨_, r0, e, _, hq, x0, x1⟩ := (HRX.out W' hb).at_ (i := 0) (by decide)
    injection e with e
    subst e
    injection hq with hq
    subst hq
    obtain ⟨_, r0, e, _, hq, y0, y1⟩ := (HRY.out W' hb).at_ (i := 1) (by decide)
    injection e with e
    subst e
    injection hq with hq
    subst hq
    rw [Nat.zero_mul, HA0.out] at x0 x1
    have ea : a6.add (1 * 2) = ⟨a6.block, a6.off + 2, none⟩ := by unfold Addr.add; rw [if_neg (by omega)]
    rw [ea] at y0 y1
    obtain ⟨m0, m1, m2⟩ := (HBX.out.on hb).three
    exact ⟨(OwnB.cellK how mcl_len (i := 0) (k := 0) rfl (by omega) rfl).1, (OwnB.cellK how mcl_len (i := 0) (k := 1) rfl (by omega) rfl).1, (OwnB.cellK how mcl_len (i := 0) (k := 2) rfl (by omega) rfl).1, (OwnB.cellK how mcl_len (i := 1) (k := 2) rfl (by omega) rfl).1, x0, x1, y0, y1, m0, m1, m2⟩
  have CM2 := Lib.hid fun W' (hb : Below W0.heap.size W0 W') X y (hm : RdM W' W'.heap.size X 2 (fun _ => 2) (fun _ _ => true)) => may_any (some ⟨g1, 0, none⟩) X 3 3 2 y [0, 1, 0] (fun _ _ => true) 0 2 false W' (HRD.out W' hb) hm (by omega) (by omega) (by omega)
  rw [k10_6] at CM2
  have CFI := Lib.hid fun W' (hb : Below W.heap.size W W') => mfits_any (some ⟨w3.heap.size, 0, none⟩) none none (some ⟨g1, 0, none⟩) 2 0 0 3 2 0 0 3 P10 [] [0, 1, 0] [⟨0, 4⟩, ⟨1, 2⟩] 0 2 false W' (HCF.out.on hb) (HRD.out W' (HKW.out.trans (hb.mono HKW.out.size))) (by omega) (by omega) (by omega) (by omega) (by decide) (by decide) (by intro x hx; simp [P10] at hx; subst hx; exact ⟨by decide, by decide⟩) (fun _ V hv => CD4.out V ((HKW.out.trans (hb.mono HKW.out.size)).trans (hv.mono (HKW.out.trans (hb.mono HKW.out.size)).size)))
  rw [k10_8] at CFI
  have HW := Lib.hid hW
  clear hP hbox hbW hW HRL HR1 HCF HBX HRX HRY HOW HR5' HR6
  go_upto_region 6 with fail
  rw [← HW.out]
  generalize w3.heap.size = g3 at HCE CFI HW ⊢
  have HB9 := Lib.hid (HB0.out.trans (HKW.out.mono HB0.out.size))
  refine Rgs.region (by kernel_rfl) (by kernel_rfl) (KnoV10 ga g1 g3 c4 c5 c6 a5 a6) (fun _ _ w' => Below W.heap.size W w') (Below.refl _ _).drew (Rgs.steps_of ?_) ?_
  · refine ⟨?_, ?_, ?_, ?_, ?_, ?_, ?_, ?_, ?_, ?_, ?_, ?_, ?_, ?_, ?_, ?_, ?_, ?_, ?_, ?_, ?_, ?_, ?_, ?_, ?_, ?_, ?_, ?_, ?_, ?_, ?_, ?_, ?_, ?_, ?_, ?_, ?_, ?_, ?_, ?_, ?_, ?_, ?_, ?_, ?_, ?_, ?_, ?_, ?_, ?_, ?_, ?_, ?_, ?_, ?_, ?_, ?_, ?_, ?_, ?_, ?_, ?_, ?_, ?_, ?_, ?_, ?_, ?_, ?_, ?_, ?_, ?_, ?_, ?_, ?_, trivial⟩
    · intro a' w1 live Sz E Dv Cl h0 hk hW
      have e2 : a'.eval (.tmp 2) = .slice (some ⟨ga, 0, none⟩) 2 c4 := E 2 rfl
      exact Rgs.val rfl (Reg.wanted_free rfl) (.slice (some ⟨ga, 0, none⟩) 2 c4) (by have c := Reg.consts a'; generalize a'.eval = ρ at *; simp [execOp, go_sem, c.1, c.2, e2]) rfl hW
    · intro a' w1 live Sz E Dv Cl h0 hk hW
      have d0 : a'.eval (.tmp 20) = .slice (some ⟨ga, 0, none⟩) 2 c4 := Dv 0 rfl _ _ rfl rfl
      exact Rgs.val rfl (Reg.wanted_free rfl) (.int .i64 2) (by have c := Reg.consts a'; generalize a'.eval = ρ at *; simp [execOp, go_sem, c.1, c.2, d0]) rfl hW
    · intro a' w1 live Sz E Dv Cl h0 hk hW
      have d1 : a'.eval (.tmp 21) = .int .i64 2 := Dv 1 rfl _ _ rfl rfl
      exact Rgs.val rfl (Reg.wanted_free rfl) (.bool true) (by have c := Reg.consts a'; generalize a'.eval = ρ at *; simp [execOp, go_sem, c.1, c.2, d1]) rfl hW
    · intro a' w1 live Sz E Dv Cl h0 hk hW
      have d2 : a'.eval (.tmp 22) = .bool true := Dv 2 rfl _ _ rfl rfl
      exact Rgs.val rfl (Reg.wanted_free rfl) (.bool true) (by have c := Reg.consts a'; generalize a'.eval = ρ at *; simp [execOp, go_sem, c.1, c.2, d2]) rfl hW
    · intro a' w1 live Sz E Dv Cl h0 hk hW
      have dg : a'.eval (.tmp 23) = .bool true := Dv 3 rfl _ _ rfl rfl
      have e2 : a'.eval (.tmp 2) = .slice (some ⟨ga, 0, none⟩) 2 c4 := E 2 rfl
      exact Rgs.val rfl (Reg.wanted_if rfl rfl dg rfl) (.slice (some ⟨ga, 0, none⟩) 2 c4) (by have c := Reg.consts a'; generalize a'.eval = ρ at *; simp [execOp, go_sem, c.1, c.2, e2]) rfl hW
    · intro a' w1 live Sz E Dv Cl h0 hk hW
      have dg : a'.eval (.tmp 23) = .bool true := Dv 3 rfl _ _ rfl rfl
      have d4 : a'.eval (.tmp 24) = .slice (some ⟨ga, 0, none⟩) 2 c4 := Dv 4 rfl _ _ rfl rfl
      exact Rgs.val rfl (Reg.wanted_if rfl rfl dg rfl) (.pointer (some ⟨ga, 0, none⟩)) (by have c := Reg.consts a'; generalize a'.eval = ρ at *; simp [execOp, go_sem, c.1, c.2, d4]) rfl hW
    · intro a' w1 live Sz E Dv Cl h0 hk hW
      have dg : a'.eval (.tmp 23) = .bool true := Dv 3 rfl _ _ rfl rfl
      have d5 : a'.eval (.tmp 25) = .pointer (some ⟨ga, 0, none⟩) := Dv 5 rfl _ _ rfl rfl
      exact Rgs.val rfl (Reg.wanted_if rfl rfl dg rfl) (.pointer (some ⟨ga, 2, none⟩)) (by have c := Reg.consts a'; generalize a'.eval = ρ at *; simp [execOp, go_sem, c.1, c.2, d5]) rfl hW
    · intro a' w1 live Sz E Dv Cl h0 hk hW
      have dg : a'.eval (.tmp 23) = .bool true := Dv 3 rfl _ _ rfl rfl
      have d6 : a'.eval (.tmp 26) = .pointer (some ⟨ga, 2, none⟩) := Dv 6 rfl _ _ rfl rfl
      obtain ⟨z0, z1, z2, z3, x0, x1, y0, y1, m0, m1, m2⟩ := HCE.out w1 hW
      exact Rgs.val rfl (Reg.wanted_if rfl rfl dg rfl) (.bool false) (by have c := Reg.consts a'; generalize a'.eval = ρ at *; simp [execOp, go_sem, c.1, c.2, d6, z2]) rfl hW
    · intro a' w1 live Sz E Dv Cl h0 hk hW
      have dg : a'.eval (.tmp 23) = .bool true := Dv 3 rfl _ _ rfl rfl
      have d7 : a'.eval (.tmp 27) = .bool false := Dv 7 rfl _ _ rfl rfl
      exact Rgs.val rfl (Reg.wanted_if rfl rfl dg rfl) (.bool true) (by have c := Reg.consts a'; generalize a'.eval = ρ at *; simp [execOp, go_sem, c.1, c.2, d7]) rfl hW
    · intro a' w1 live Sz E Dv Cl h0 hk hW
      have d3 : a'.eval (.tmp 23) = .bool true := Dv 3 rfl _ _ rfl rfl
      have d8 : a'.eval (.tmp 28) = .bool true := Dv 8 rfl _ _ rfl rfl
      exact Rgs.val rfl (Reg.wanted_free rfl) (.bool true) (by have c := Reg.consts a'; generalize a'.eval = ρ at *; simp [execOp, go_sem, c.1, c.2, d3, d8]) rfl hW
    · intro a' w1 live Sz E Dv Cl h0 hk hW
      have d9 : a'.eval (.tmp 29) = .bool true := Dv 9 rfl _ _ rfl rfl
      exact Rgs.val rfl (Reg.wanted_free rfl) (.bool true) (by have c := Reg.consts a'; generalize a'.eval = ρ at *; simp [execOp, go_sem, c.1, c.2, d9]) rfl hW
    · intro a' w1 live Sz E Dv Cl h0 hk hW
      have dg : a'.eval (.tmp 30) = .bool true := Dv 10 rfl _ _ rfl rfl
      have e2 : a'.eval (.tmp 2) = .slice (some ⟨ga, 0, none⟩) 2 c4 := E 2 rfl
      exact Rgs.val rfl (Reg.wanted_if rfl rfl dg rfl) (.slice (some ⟨ga, 0, none⟩) 2 c4) (by have c := Reg.consts a'; generalize a'.eval = ρ at *; simp [execOp, go_sem, c.1, c.2, e2]) rfl hW
    · intro a' w1 live Sz E Dv Cl h0 hk hW
      have dg : a'.eval (.tmp 30) = .bool true := Dv 10 rfl _ _ rfl rfl
      have d11 : a'.eval (.tmp 31) = .slice (some ⟨ga, 0, none⟩) 2 c4 := Dv 11 rfl _ _ rfl rfl
      have ead := mk_add ga 3
      exact Rgs.val rfl (Reg.wanted_if rfl rfl dg rfl) (.pointer (some ⟨ga, 3, none⟩)) (by have c := Reg.consts a'; generalize a'.eval = ρ at *; simp [execOp, go_sem, c.1, c.2, d11, ead]) rfl hW
    · intro a' w1 live Sz E Dv Cl h0 hk hW
      have dg : a'.eval (.tmp 30) = .bool true := Dv 10 rfl _ _ rfl rfl
      have d12 : a'.eval (.tmp 32) = .pointer (some ⟨ga, 3, none⟩) := Dv 12 rfl _ _ rfl rfl
      exact Rgs.val rfl (Reg.wanted_if rfl rfl dg rfl) (.pointer (some ⟨ga, 5, none⟩)) (by have c := Reg.consts a'; generalize a'.eval = ρ at *; simp [execOp, go_sem, c.1, c.2, d12]) rfl hW
    · intro a' w1 live Sz E Dv Cl h0 hk hW
      have dg : a'.eval (.tmp 30) = .bool true := Dv 10 rfl _ _ rfl rfl
      have d13 : a'.eval (.tmp 33) = .pointer (some ⟨ga, 5, none⟩) := Dv 13 rfl _ _ rfl rfl
      obtain ⟨z0, z1, z2, z3, x0, x1, y0, y1, m0, m1, m2⟩ := HCE.out w1 hW
      exact Rgs.val rfl (Reg.wanted_if rfl rfl dg rfl) (.bool true) (by have c := Reg.consts a'; generalize a'.eval = ρ at *; simp [execOp, go_sem, c.1, c.2, d13, z3]) rfl hW
    · intro a' w1 live Sz E Dv Cl h0 hk hW
      have d10 : a'.eval (.tmp 30) = .bool true := Dv 10 rfl _ _ rfl rfl
      have d14 : a'.eval (.tmp 34) = .bool true := Dv 14 rfl _ _ rfl rfl
      exact Rgs.val rfl (Reg.wanted_free rfl) (.bool true) (by have c := Reg.consts a'; generalize a'.eval = ρ at *; simp [execOp, go_sem, c.1, c.2, d10, d14]) rfl hW
    · intro a' w1 live Sz E Dv Cl h0 hk hW
      have d15 : a'.eval (.tmp 35) = .bool true := Dv 15 rfl _ _ rfl rfl
      exact Rgs.val rfl (Reg.wanted_free rfl) (.bool true) (by have c := Reg.consts a'; generalize a'.eval = ρ at *; simp [execOp, go_sem, c.1, c.2, d15]) rfl hW
    · intro a' w1 live Sz E Dv Cl h0 hk hW
      have dg : a'.eval (.tmp 36) = .bool true := Dv 16 rfl _ _ rfl rfl
      have e3 : a'.eval (.tmp 3) = .slice (some a5) 2 c5 := E 3 rfl
      exact Rgs.val rfl (Reg.wanted_if rfl rfl dg rfl) (.slice (some a5) 2 c5) (by have c := Reg.consts a'; generalize a'.eval = ρ at *; simp [execOp, go_sem, c.1, c.2, e3]) rfl hW
    · intro a' w1 live Sz E Dv Cl h0 hk hW
      have dg : a'.eval (.tmp 36) = .bool true := Dv 16 rfl _ _ rfl rfl
      have d17 : a'.eval (.tmp 37) = .slice (some a5) 2 c5 := Dv 17 rfl _ _ rfl rfl
      exact Rgs.val rfl (Reg.wanted_if rfl rfl dg rfl) (.int .i64 2) (by have c := Reg.consts a'; generalize a'.eval = ρ at *; simp [execOp, go_sem, c.1, c.2, d17]) rfl hW
    · intro a' w1 live Sz E Dv Cl h0 hk hW
      have dg : a'.eval (.tmp 36) = .bool true := Dv 16 rfl _ _ rfl rfl
      have d18 : a'.eval (.tmp 38) = .int .i64 2 := Dv 18 rfl _ _ rfl rfl
      exact Rgs.val rfl (Reg.wanted_if rfl rfl dg rfl) (.bool true) (by have c := Reg.consts a'; generalize a'.eval = ρ at *; simp [execOp, go_sem, c.1, c.2, d18]) rfl hW
    · intro a' w1 live Sz E Dv Cl h0 hk hW
      have d16 : a'.eval (.tmp 36) = .bool true := Dv 16 rfl _ _ rfl rfl
      have d19 : a'.eval (.tmp 39) = .bool true := Dv 19 rfl _ _ rfl rfl
      exact Rgs.val rfl (Reg.wanted_free rfl) (.bool true) (by have c := Reg.consts a'; generalize a'.eval = ρ at *; simp [execOp, go_sem, c.1, c.2, d16, d19]) rfl hW
    · intro a' w1 live Sz E Dv Cl h0 hk hW
      have d20 : a'.eval (.tmp 40) = .bool true := Dv 20 rfl _ _ rfl rfl
      exact Rgs.val rfl (Reg.wanted_free rfl) (.bool true) (by have c := Reg.consts a'; generalize a'.eval = ρ at *; simp [execOp, go_sem, c.1, c.2, d20]) rfl hW
    · intro a' w1 live Sz E Dv Cl h0 hk hW
      have dg : a'.eval (.tmp 41) = .bool true := Dv 21 rfl _ _ rfl rfl
      have e3 : a'.eval (.tmp 3) = .slice (some a5) 2 c5 := E 3 rfl
      exact Rgs.val rfl (Reg.wanted_if rfl rfl dg rfl) (.slice (some a5) 2 c5) (by have c := Reg.consts a'; generalize a'.eval = ρ at *; simp [execOp, go_sem, c.1, c.2, e3]) rfl hW
    · intro a' w1 live Sz E Dv Cl h0 hk hW
      have dg : a'.eval (.tmp 41) = .bool true := Dv 21 rfl _ _ rfl rfl
      have d22 : a'.eval (.tmp 42) = .slice (some a5) 2 c5 := Dv 22 rfl _ _ rfl rfl
      have hX0 := HA0.out
      exact Rgs.val rfl (Reg.wanted_if rfl rfl dg rfl) (.pointer (some a5)) (by have c := Reg.consts a'; generalize a'.eval = ρ at *; simp [execOp, go_sem, c.1, c.2, d22, hX0]) rfl hW
    · intro a' w1 live Sz E Dv Cl h0 hk hW
      have dg : a'.eval (.tmp 41) = .bool true := Dv 21 rfl _ _ rfl rfl
      have d23 : a'.eval (.tmp 43) = .pointer (some a5) := Dv 23 rfl _ _ rfl rfl
      obtain ⟨z0, z1, z2, z3, x0, x1, y0, y1, m0, m1, m2⟩ := HCE.out w1 hW
      exact Rgs.val rfl (Reg.wanted_if rfl rfl dg rfl) (.agg #[.int .i64 0, .int .i64 4]) (by have c := Reg.consts a'; generalize a'.eval = ρ at *; simp [execOp, go_sem, c.1, c.2, d23, x0, x1]) rfl hW
    · intro a' w1 live Sz E Dv Cl h0 hk hW
      have dg : a'.eval (.tmp 41) = .bool true := Dv 21 rfl _ _ rfl rfl
      exact Rgs.val rfl (Reg.wanted_if rfl rfl dg rfl) (.agg #[.int .i64 0, .int .i64 4]) (by have c := Reg.consts a'; generalize a'.eval = ρ at *; simp [execOp, go_sem, c.1, c.2, go_sem]) rfl hW
    · intro a' w1 live Sz E Dv Cl h0 hk hW
      have dg : a'.eval (.tmp 41) = .bool true := Dv 21 rfl _ _ rfl rfl
      have d24 : a'.eval (.tmp 44) = .agg #[.int .i64 0, .int .i64 4] := Dv 24 rfl _ _ rfl rfl
      have d25 : a'.eval (.tmp 45) = .agg #[.int .i64 0, .int .i64 4] := Dv 25 rfl _ _ rfl rfl
      exact Rgs.val rfl (Reg.wanted_if rfl rfl dg rfl) (.bool true) (by have c := Reg.consts a'; generalize a'.eval = ρ at *; simp [execOp, go_sem, c.1, c.2, d24, d25]) rfl hW
    · intro a' w1 live Sz E Dv Cl h0 hk hW
      have d21 : a'.eval (.tmp 41) = .bool true := Dv 21 rfl _ _ rfl rfl
      have d26 : a'.eval (.tmp 46) = .bool true := Dv 26 rfl _ _ rfl rfl
      exact Rgs.val rfl (Reg.wanted_free rfl) (.bool true) (by have c := Reg.consts a'; generalize a'.eval = ρ at *; simp [execOp, go_sem, c.1, c.2, d21, d26]) rfl hW
    · intro a' w1 live Sz E Dv Cl h0 hk hW
      have d27 : a'.eval (.tmp 47) = .bool true := Dv 27 rfl _ _ rfl rfl
      exact Rgs.val rfl (Reg.wanted_free rfl) (.bool true) (by have c := Reg.consts a'; generalize a'.eval = ρ at *; simp [execOp, go_sem, c.1, c.2, d27]) rfl hW
    · intro a' w1 live Sz E Dv Cl h0 hk hW
      have dg : a'.eval (.tmp 48) = .bool true := Dv 28 rfl _ _ rfl rfl
      have e4 : a'.eval (.tmp 4) = .slice (some a6) 2 c6 := E 4 rfl
      exact Rgs.val rfl (Reg.wanted_if rfl rfl dg rfl) (.slice (some a6) 2 c6) (by have c := Reg.consts a'; generalize a'.eval = ρ at *; simp [execOp, go_sem, c.1, c.2, e4]) rfl hW
    · intro a' w1 live Sz E Dv Cl h0 hk hW
      have dg : a'.eval (.tmp 48) = .bool true := Dv 28 rfl _ _ rfl rfl
      have d29 : a'.eval (.tmp 49) = .slice (some a6) 2 c6 := Dv 29 rfl _ _ rfl rfl
      exact Rgs.val rfl (Reg.wanted_if rfl rfl dg rfl) (.pointer (some (a6.add 2))) (by have c := Reg.consts a'; generalize a'.eval = ρ at *; simp [execOp, go_sem, c.1, c.2, d29]) rfl hW
    · intro a' w1 live Sz E Dv Cl h0 hk hW
      have dg : a'.eval (.tmp 48) = .bool true := Dv 28 rfl _ _ rfl rfl
      have d30 : a'.eval (.tmp 50) = .pointer (some (a6.add 2)) := Dv 30 rfl _ _ rfl rfl
      obtain ⟨z0, z1, z2, z3, x0, x1, y0, y1, m0, m1, m2⟩ := HCE.out w1 hW
      exact Rgs.val rfl (Reg.wanted_if rfl rfl dg rfl) (.agg #[.int .i64 0, .int .i64 4]) (by have c := Reg.consts a'; generalize a'.eval = ρ at *; simp [execOp, go_sem, c.1, c.2, d30, y0, y1]) rfl hW
    · intro a' w1 live Sz E Dv Cl h0 hk hW
      have dg : a'.eval (.tmp 48) = .bool true := Dv 28 rfl _ _ rfl rfl
      exact Rgs.val rfl (Reg.wanted_if rfl rfl dg rfl) (.agg #[.int .i64 0, .int .i64 4]) (by have c := Reg.consts a'; generalize a'.eval = ρ at *; simp [execOp, go_sem, c.1, c.2, go_sem]) rfl hW
    · intro a' w1 live Sz E Dv Cl h0 hk hW
      have dg : a'.eval (.tmp 48) = .bool true := Dv 28 rfl _ _ rfl rfl
      have d31 : a'.eval (.tmp 51) = .agg #[.int .i64 0, .int .i64 4] := Dv 31 rfl _ _ rfl rfl
      have d32 : a'.eval (.tmp 52) = .agg #[.int .i64 0, .int .i64 4] := Dv 32 rfl _ _ rfl rfl
      exact Rgs.val rfl (Reg.wanted_if rfl rfl dg rfl) (.bool true) (by have c := Reg.consts a'; generalize a'.eval = ρ at *; simp [execOp, go_sem, c.1, c.2, d31, d32]) rfl hW
    · intro a' w1 live Sz E Dv Cl h0 hk hW
      have d28 : a'.eval (.tmp 48) = .bool true := Dv 28 rfl _ _ rfl rfl
      have d33 : a'.eval (.tmp 53) = .bool true := Dv 33 rfl _ _ rfl rfl
      exact Rgs.val rfl (Reg.wanted_free rfl) (.bool true) (by have c := Reg.consts a'; generalize a'.eval = ρ at *; simp [execOp, go_sem, c.1, c.2, d28, d33]) rfl hW
    · intro a' w1 live Sz E Dv Cl h0 hk hW
      have d34 : a'.eval (.tmp 54) = .bool true := Dv 34 rfl _ _ rfl rfl
      exact Rgs.val rfl (Reg.wanted_free rfl) (.bool true) (by have c := Reg.consts a'; generalize a'.eval = ρ at *; simp [execOp, go_sem, c.1, c.2, d34]) rfl hW
    · intro a' w1 live Sz E Dv Cl h0 hk hW
      have dg : a'.eval (.tmp 55) = .bool true := Dv 35 rfl _ _ rfl rfl
      have e1 : a'.eval (.tmp 1) = .slice (some ⟨g1, 0, none⟩) 3 3 := E 1 rfl
      exact Rgs.val rfl (Reg.wanted_if rfl rfl dg rfl) (.slice (some ⟨g1, 0, none⟩) 3 3) (by have c := Reg.consts a'; generalize a'.eval = ρ at *; simp [execOp, go_sem, c.1, c.2, e1]) rfl hW
    · intro a' w1 live Sz E Dv Cl h0 hk hW
      have dg : a'.eval (.tmp 55) = .bool true := Dv 35 rfl _ _ rfl rfl
      have d36 : a'.eval (.tmp 56) = .slice (some ⟨g1, 0, none⟩) 3 3 := Dv 36 rfl _ _ rfl rfl
      exact Rgs.val rfl (Reg.wanted_if rfl rfl dg rfl) (.slice (some ⟨g1, 0, none⟩) 1 3) (by have c := Reg.consts a'; generalize a'.eval = ρ at *; simp [execOp, go_sem, c.1, c.2, d36]) rfl hW
    · intro a' w1 live Sz E Dv Cl h0 hk hW
      have dg : a'.eval (.tmp 55) = .bool true := Dv 35 rfl _ _ rfl rfl
      have d37 : a'.eval (.tmp 57) = .slice (some ⟨g1, 0, none⟩) 1 3 := Dv 37 rfl _ _ rfl rfl
      refine Rgs.call rfl (Reg.wanted_if rfl rfl dg rfl) 16 #[.slice (some ⟨g1, 0, none⟩) 1 3, .slice none 0 0] (by have c := Reg.consts a'; generalize a'.eval = ρ at *; simp [execOp, go_sem, c.1, c.2, d37]) ?_
      refine (CA2.out w1 (HKW.out.trans (hW.mono HKW.out.size))).mono ?_
      rintro e w5 ⟨A5, c5, rfl, _, hb5⟩
      exact ⟨_, rfl, ⟨A5, c5, rfl⟩, hW.trans (hb5.mono hW.size), fun j v _ h => KnoV10.on hb5 j v h⟩
    · intro a' w1 live Sz E Dv Cl h0 hk hW
      have dg : a'.eval (.tmp 55) = .bool true := Dv 35 rfl _ _ rfl rfl
      obtain ⟨X38, y38, d38⟩ : RowL 0 (a'.eval (.tmp 58)) := Dv 38 rfl _ _ rfl rfl
      exact Rgs.val rfl (Reg.wanted_if rfl rfl dg rfl) (.int .i64 0) (by have c := Reg.consts a'; generalize a'.eval = ρ at *; simp [execOp, go_sem, c.1, c.2, d38]) rfl hW
    · intro a' w1 live Sz E Dv Cl h0 hk hW
      have dg : a'.eval (.tmp 55) = .bool true := Dv 35 rfl _ _ rfl rfl
      have d39 : a'.eval (.tmp 59) = .int .i64 0 := Dv 39 rfl _ _ rfl rfl
      exact Rgs.val rfl (Reg.wanted_if rfl rfl dg rfl) (.bool true) (by have c := Reg.consts a'; generalize a'.eval = ρ at *; simp [execOp, go_sem, c.1, c.2, d39]) rfl hW
    · intro a' w1 live Sz E Dv Cl h0 hk hW
      have d35 : a'.eval (.tmp 55) = .bool true := Dv 35 rfl _ _ rfl rfl
      have d40 : a'.eval (.tmp 60) = .bool true := Dv 40 rfl _ _ rfl rfl
      exact Rgs.val rfl (Reg.wanted_free rfl) (.bool true) (by have c := Reg.consts a'; generalize a'.eval = ρ at *; simp [execOp, go_sem, c.1, c.2, d35, d40]) rfl hW
    · intro a' w1 live Sz E Dv Cl h0 hk hW
      have d41 : a'.eval (.tmp 61) = .bool true := Dv 41 rfl _ _ rfl rfl
      exact Rgs.val rfl (Reg.wanted_free rfl) (.bool true) (by have c := Reg.consts a'; generalize a'.eval = ρ at *; simp [execOp, go_sem, c.1, c.2, d41]) rfl hW
    · intro a' w1 live Sz E Dv Cl h0 hk hW
      have dg : a'.eval (.tmp 62) = .bool true := Dv 42 rfl _ _ rfl rfl
      have e1 : a'.eval (.tmp 1) = .slice (some ⟨g1, 0, none⟩) 3 3 := E 1 rfl
      exact Rgs.val rfl (Reg.wanted_if rfl rfl dg rfl) (.slice (some ⟨g1, 0, none⟩) 3 3) (by have c := Reg.consts a'; generalize a'.eval = ρ at *; simp [execOp, go_sem, c.1, c.2, e1]) rfl hW
    · intro a' w1 live Sz E Dv Cl h0 hk hW
      have dg : a'.eval (.tmp 62) = .bool true := Dv 42 rfl _ _ rfl rfl
      exact Rgs.val rfl (Reg.wanted_if rfl rfl dg rfl) (.agg #[.int .i64 0, .int .i64 0, .bool false]) (by have c := Reg.consts a'; generalize a'.eval = ρ at *; simp [execOp, go_sem, c.1, c.2, go_sem]) rfl hW
    · intro a' w1 live Sz E Dv Cl h0 hk hW
      have dg : a'.eval (.tmp 62) = .bool true := Dv 42 rfl _ _ rfl rfl
      have d43 : a'.eval (.tmp 63) = .slice (some ⟨g1, 0, none⟩) 3 3 := Dv 43 rfl _ _ rfl rfl
      have d44 : a'.eval (.tmp 64) = .agg #[.int .i64 0, .int .i64 0, .bool false] := Dv 44 rfl _ _ rfl rfl
      refine Rgs.call rfl (Reg.wanted_if rfl rfl dg rfl) 20 #[.slice (some ⟨g1, 0, none⟩) 3 3, .slice none 0 0, .agg #[.int .i64 0, .int .i64 0, .bool false]] (by have c := Reg.consts a'; generalize a'.eval = ρ at *; simp [execOp, go_sem, c.1, c.2, d43, d44]) ?_
      have hth := CM1.out w1 (HKW.out.trans (hW.mono HKW.out.size))
      refine hth.mono ?_
      rintro e w5 ⟨rfl, hb5⟩
      exact ⟨_, rfl, rfl, hW.trans (hb5.mono hW.size), fun j v _ h => KnoV10.on hb5 j v h⟩
    · intro a' w1 live Sz E Dv Cl h0 hk hW
      have dg : a'.eval (.tmp 62) = .bool true := Dv 42 rfl _ _ rfl rfl
      have d45 : a'.eval (.tmp 65) = .bool false := Dv 45 rfl _ _ rfl rfl
      exact Rgs.val rfl (Reg.wanted_if rfl rfl dg rfl) (.bool true) (by have c := Reg.consts a'; generalize a'.eval = ρ at *; simp [execOp, go_sem, c.1, c.2, d45]) rfl hW
    · intro a' w1 live Sz E Dv Cl h0 hk hW
      have d42 : a'.eval (.tmp 62) = .bool true := Dv 42 rfl _ _ rfl rfl
      have d46 : a'.eval (.tmp 66) = .bool true := Dv 46 rfl _ _ rfl rfl
      exact Rgs.val rfl (Reg.wanted_free rfl) (.bool true) (by have c := Reg.consts a'; generalize a'.eval = ρ at *; simp [execOp, go_sem, c.1, c.2, d42, d46]) rfl hW
    · intro a' w1 live Sz E Dv Cl h0 hk hW
      have d47 : a'.eval (.tmp 67) = .bool true := Dv 47 rfl _ _ rfl rfl
      exact Rgs.val rfl (Reg.wanted_free rfl) (.bool true) (by have c := Reg.consts a'; generalize a'.eval = ρ at *; simp [execOp, go_sem, c.1, c.2, d47]) rfl hW
    · intro a' w1 live Sz E Dv Cl h0 hk hW
      have dg : a'.eval (.tmp 68) = .bool true := Dv 48 rfl _ _ rfl rfl
      have e1 : a'.eval (.tmp 1) = .slice (some ⟨g1, 0, none⟩) 3 3 := E 1 rfl
      exact Rgs.val rfl (Reg.wanted_if rfl rfl dg rfl) (.slice (some ⟨g1, 0, none⟩) 3 3) (by have c := Reg.consts a'; generalize a'.eval = ρ at *; simp [execOp, go_sem, c.1, c.2, e1]) rfl hW
    · intro a' w1 live Sz E Dv Cl h0 hk hW
      have dg : a'.eval (.tmp 68) = .bool true := Dv 48 rfl _ _ rfl rfl
      exact Rgs.grow rfl (Reg.wanted_if rfl rfl dg rfl) (.slice (some ⟨w1.heap.size, 0, none⟩) 2 2) (w1.alloc (.cells #[.bool true, .bool true] 4)) (by have c := Reg.consts a'; generalize a'.eval = ρ at *; simp [execOp, go_sem, c.1, c.2, go_sem]) ⟨_, rfl, two_vec w1 _⟩ (hW.trans ((bl1 w1 _).mono hW.size)) (fun j v _ h => KnoV10.on (bl1 w1 _) j v h)
    · intro a' w1 live Sz E Dv Cl h0 hk hW
      have dg : a'.eval (.tmp 68) = .bool true := Dv 48 rfl _ _ rfl rfl
      exact Rgs.grow rfl (Reg.wanted_if rfl rfl dg rfl) (.slice (some ⟨w1.heap.size, 0, none⟩) 2 2) (w1.alloc (.cells #[.bool true, .bool true] 4)) (by have c := Reg.consts a'; generalize a'.eval = ρ at *; simp [execOp, go_sem, c.1, c.2, go_sem]) ⟨_, rfl, two_vec w1 _⟩ (hW.trans ((bl1 w1 _).mono hW.size)) (fun j v _ h => KnoV10.on (bl1 w1 _) j v h)
    · intro a' w1 live Sz E Dv Cl h0 hk hW
      have dg : a'.eval (.tmp 68) = .bool true := Dv 48 rfl _ _ rfl rfl
      obtain ⟨x50, d50, hv50⟩ : BoxW (a'.eval (.tmp 70)) w1 := Dv 50 rfl _ _ rfl rfl
      obtain ⟨x51, d51, hv51⟩ : BoxW (a'.eval (.tmp 71)) w1 := Dv 51 rfl _ _ rfl rfl
      exact Rgs.grow rfl (Reg.wanted_if rfl rfl dg rfl) (.slice (some ⟨w1.heap.size, 0, none⟩) 2 2) (w1.alloc (.cells #[.slice (some ⟨x50, 0, none⟩) 2 2, .slice (some ⟨x51, 0, none⟩) 2 2] 58)) (by have c := Reg.consts a'; generalize a'.eval = ρ at *; simp [execOp, go_sem, c.1, c.2, d50, d51]) (two_mat w1 _ hv50 hv51) (hW.trans ((bl1 w1 _).mono hW.size)) (fun j v _ h => KnoV10.on (bl1 w1 _) j v h)
    · intro a' w1 live Sz E Dv Cl h0 hk hW
      have dg : a'.eval (.tmp 68) = .bool true := Dv 48 rfl _ _ rfl rfl
      have e2 : a'.eval (.tmp 2) = .slice (some ⟨ga, 0, none⟩) 2 c4 := E 2 rfl
      exact Rgs.val rfl (Reg.wanted_if rfl rfl dg rfl) (.slice (some ⟨ga, 0, none⟩) 2 c4) (by have c := Reg.consts a'; generalize a'.eval = ρ at *; simp [execOp, go_sem, c.1, c.2, e2]) rfl hW
    · intro a' w1 live Sz E Dv Cl h0 hk hW
      have dg : a'.eval (.tmp 68) = .bool true := Dv 48 rfl _ _ rfl rfl
      have d53 : a'.eval (.tmp 73) = .slice (some ⟨ga, 0, none⟩) 2 c4 := Dv 53 rfl _ _ rfl rfl
      exact Rgs.val rfl (Reg.wanted_if rfl rfl dg rfl) (.pointer (some ⟨ga, 0, none⟩)) (by have c := Reg.consts a'; generalize a'.eval = ρ at *; simp [execOp, go_sem, c.1, c.2, d53]) rfl hW
    · intro a' w1 live Sz E Dv Cl h0 hk hW
      have dg : a'.eval (.tmp 68) = .bool true := Dv 48 rfl _ _ rfl rfl
      have d54 : a'.eval (.tmp 74) = .pointer (some ⟨ga, 0, none⟩) := Dv 54 rfl _ _ rfl rfl
      obtain ⟨z0, z1, z2, z3, x0, x1, y0, y1, m0, m1, m2⟩ := HCE.out w1 hW
      exact Rgs.val rfl (Reg.wanted_if rfl rfl dg rfl) (.agg #[.int .i64 0, .int .i64 2, .bool false]) (by have c := Reg.consts a'; generalize a'.eval = ρ at *; simp [execOp, go_sem, c.1, c.2, d54, z0, z1, z2]) rfl hW
    · intro a' w1 live Sz E Dv Cl h0 hk hW
      have dg : a'.eval (.tmp 68) = .bool true := Dv 48 rfl _ _ rfl rfl
      have d49 : a'.eval (.tmp 69) = .slice (some ⟨g1, 0, none⟩) 3 3 := Dv 49 rfl _ _ rfl rfl
      have d55 : a'.eval (.tmp 75) = .agg #[.int .i64 0, .int .i64 2, .bool false] := Dv 55 rfl _ _ rfl rfl
      obtain ⟨X13, y13, d52, hc13, hr13⟩ : MtW 2 (fun _ _ => true) (a'.eval (.tmp 72)) w1 := Dv 52 rfl _ _ rfl rfl
      refine Rgs.call rfl (Reg.wanted_if rfl rfl dg rfl) 20 #[.slice (some ⟨g1, 0, none⟩) 3 3, .slice X13 2 y13, .agg #[.int .i64 0, .int .i64 2, .bool false]] (by have c := Reg.consts a'; generalize a'.eval = ρ at *; simp [execOp, go_sem, c.1, c.2, d49, d55, d52]) ?_
      have hth := CM2.out w1 (HKW.out.trans (hW.mono HKW.out.size)) X13 y13 hr13
      refine hth.mono ?_
      rintro e w5 ⟨rfl, hb5⟩
      exact ⟨_, rfl, rfl, hW.trans (hb5.mono hW.size), fun j v _ h => KnoV10.on hb5 j v h⟩
    · intro a' w1 live Sz E Dv Cl h0 hk hW
      have dg : a'.eval (.tmp 68) = .bool true := Dv 48 rfl _ _ rfl rfl
      have d56 : a'.eval (.tmp 76) = .bool false := Dv 56 rfl _ _ rfl rfl
      exact Rgs.val rfl (Reg.wanted_if rfl rfl dg rfl) (.bool true) (by have c := Reg.consts a'; generalize a'.eval = ρ at *; simp [execOp, go_sem, c.1, c.2, d56]) rfl hW
    · intro a' w1 live Sz E Dv Cl h0 hk hW
      have d48 : a'.eval (.tmp 68) = .bool true := Dv 48 rfl _ _ rfl rfl
      have d57 : a'.eval (.tmp 77) = .bool true := Dv 57 rfl _ _ rfl rfl
      exact Rgs.val rfl (Reg.wanted_free rfl) (.bool true) (by have c := Reg.consts a'; generalize a'.eval = ρ at *; simp [execOp, go_sem, c.1, c.2, d48, d57]) rfl hW
    · intro a' w1 live Sz E Dv Cl h0 hk hW
      have d58 : a'.eval (.tmp 78) = .bool true := Dv 58 rfl _ _ rfl rfl
      exact Rgs.val rfl (Reg.wanted_free rfl) (.bool true) (by have c := Reg.consts a'; generalize a'.eval = ρ at *; simp [execOp, go_sem, c.1, c.2, d58]) rfl hW
    · intro a' w1 live Sz E Dv Cl h0 hk hW
      have dg : a'.eval (.tmp 79) = .bool true := Dv 59 rfl _ _ rfl rfl
      have e1 : a'.eval (.tmp 1) = .slice (some ⟨g1, 0, none⟩) 3 3 := E 1 rfl
      exact Rgs.val rfl (Reg.wanted_if rfl rfl dg rfl) (.slice (some ⟨g1, 0, none⟩) 3 3) (by have c := Reg.consts a'; generalize a'.eval = ρ at *; simp [execOp, go_sem, c.1, c.2, e1]) rfl hW
    · intro a' w1 live Sz E Dv Cl h0 hk hW
      have dg : a'.eval (.tmp 79) = .bool true := Dv 59 rfl _ _ rfl rfl
      exact Rgs.val rfl (Reg.wanted_if rfl rfl dg rfl) (.agg #[.int .i64 5, .int .i64 9, .bool false]) (by have c := Reg.consts a'; generalize a'.eval = ρ at *; simp [execOp, go_sem, c.1, c.2, go_sem]) rfl hW
    · intro a' w1 live Sz E Dv Cl h0 hk hW
      have dg : a'.eval (.tmp 79) = .bool true := Dv 59 rfl _ _ rfl rfl
      have d60 : a'.eval (.tmp 80) = .slice (some ⟨g1, 0, none⟩) 3 3 := Dv 60 rfl _ _ rfl rfl
      have d61 : a'.eval (.tmp 81) = .agg #[.int .i64 5, .int .i64 9, .bool false] := Dv 61 rfl _ _ rfl rfl
      refine Rgs.call rfl (Reg.wanted_if rfl rfl dg rfl) 18 #[.slice (some ⟨g1, 0, none⟩) 3 3, .agg #[.int .i64 5, .int .i64 9, .bool false]] (by have c := Reg.consts a'; generalize a'.eval = ρ at *; simp [execOp, go_sem, c.1, c.2, d60, d61]) ?_
      refine (CD3.out w1 (HKW.out.trans (hW.mono HKW.out.size))).mono ?_
      rintro e w5 ⟨A5, c5, rfl, _, _, hb5⟩
      exact ⟨_, rfl, ⟨A5, c5, rfl⟩, hW.trans (hb5.mono hW.size), fun j v _ h => KnoV10.on hb5 j v h⟩
    · intro a' w1 live Sz E Dv Cl h0 hk hW
      have dg : a'.eval (.tmp 79) = .bool true := Dv 59 rfl _ _ rfl rfl
      obtain ⟨X62, y62, d62⟩ : RowL 3 (a'.eval (.tmp 82)) := Dv 62 rfl _ _ rfl rfl
      exact Rgs.val rfl (Reg.wanted_if rfl rfl dg rfl) (.int .i64 3) (by have c := Reg.consts a'; generalize a'.eval = ρ at *; simp [execOp, go_sem, c.1, c.2, d62]) rfl hW
    · intro a' w1 live Sz E Dv Cl h0 hk hW
      have dg : a'.eval (.tmp 79) = .bool true := Dv 59 rfl _ _ rfl rfl
      have d63 : a'.eval (.tmp 83) = .int .i64 3 := Dv 63 rfl _ _ rfl rfl
      exact Rgs.val rfl (Reg.wanted_if rfl rfl dg rfl) (.bool true) (by have c := Reg.consts a'; generalize a'.eval = ρ at *; simp [execOp, go_sem, c.1, c.2, d63]) rfl hW
    · intro a' w1 live Sz E Dv Cl h0 hk hW
      have d59 : a'.eval (.tmp 79) = .bool true := Dv 59 rfl _ _ rfl rfl
      have d64 : a'.eval (.tmp 84) = .bool true := Dv 64 rfl _ _ rfl rfl
      exact Rgs.val rfl (Reg.wanted_free rfl) (.bool true) (by have c := Reg.consts a'; generalize a'.eval = ρ at *; simp [execOp, go_sem, c.1, c.2, d59, d64]) rfl hW
    · intro a' w1 live Sz E Dv Cl h0 hk hW
      have d65 : a'.eval (.tmp 85) = .bool true := Dv 65 rfl _ _ rfl rfl
      exact Rgs.val rfl (Reg.wanted_free rfl) (.bool true) (by have c := Reg.consts a'; generalize a'.eval = ρ at *; simp [execOp, go_sem, c.1, c.2, d65]) rfl hW
    · intro a' w1 live Sz E Dv Cl h0 hk hW
      have dg : a'.eval (.tmp 86) = .bool true := Dv 66 rfl _ _ rfl rfl
      have e5 : a'.eval (.tmp 5) = .pointer (some ⟨g3 + 1, 0, none⟩) := E 5 rfl
      obtain ⟨z0, z1, z2, z3, x0, x1, y0, y1, m0, m1, m2⟩ := HCE.out w1 hW
      exact Rgs.val rfl (Reg.wanted_if rfl rfl dg rfl) (.agg #[.slice (some ⟨g3, 0, none⟩) 2 2, .slice none 0 0, .slice none 0 0]) (by have c := Reg.consts a'; generalize a'.eval = ρ at *; simp [execOp, go_sem, c.1, c.2, e5, m0, m1, m2]) rfl hW
    · intro a' w1 live Sz E Dv Cl h0 hk hW
      have dg : a'.eval (.tmp 86) = .bool true := Dv 66 rfl _ _ rfl rfl
      have e1 : a'.eval (.tmp 1) = .slice (some ⟨g1, 0, none⟩) 3 3 := E 1 rfl
      exact Rgs.val rfl (Reg.wanted_if rfl rfl dg rfl) (.slice (some ⟨g1, 0, none⟩) 3 3) (by have c := Reg.consts a'; generalize a'.eval = ρ at *; simp [execOp, go_sem, c.1, c.2, e1]) rfl hW
    · intro a' w1 live Sz E Dv Cl h0 hk hW
      have dg : a'.eval (.tmp 86) = .bool true := Dv 66 rfl _ _ rfl rfl
      have e2 : a'.eval (.tmp 2) = .slice (some ⟨ga, 0, none⟩) 2 c4 := E 2 rfl
      exact Rgs.val rfl (Reg.wanted_if rfl rfl dg rfl) (.slice (some ⟨ga, 0, none⟩) 2 c4) (by have c := Reg.consts a'; generalize a'.eval = ρ at *; simp [execOp, go_sem, c.1, c.2, e2]) rfl hW
    · intro a' w1 live Sz E Dv Cl h0 hk hW
      have dg : a'.eval (.tmp 86) = .bool true := Dv 66 rfl _ _ rfl rfl
      have d69 : a'.eval (.tmp 89) = .slice (some ⟨ga, 0, none⟩) 2 c4 := Dv 69 rfl _ _ rfl rfl
      exact Rgs.val rfl (Reg.wanted_if rfl rfl dg rfl) (.pointer (some ⟨ga, 0, none⟩)) (by have c := Reg.consts a'; generalize a'.eval = ρ at *; simp [execOp, go_sem, c.1, c.2, d69]) rfl hW
    · intro a' w1 live Sz E Dv Cl h0 hk hW
      have dg : a'.eval (.tmp 86) = .bool true := Dv 66 rfl _ _ rfl rfl
      have d70 : a'.eval (.tmp 90) = .pointer (some ⟨ga, 0, none⟩) := Dv 70 rfl _ _ rfl rfl
      obtain ⟨z0, z1, z2, z3, x0, x1, y0, y1, m0, m1, m2⟩ := HCE.out w1 hW
      exact Rgs.val rfl (Reg.wanted_if rfl rfl dg rfl) (.agg #[.int .i64 0, .int .i64 2, .bool false]) (by have c := Reg.consts a'; generalize a'.eval = ρ at *; simp [execOp, go_sem, c.1, c.2, d70, z0, z1, z2]) rfl hW
    · intro a' w1 live Sz E Dv Cl h0 hk hW
      have dg : a'.eval (.tmp 86) = .bool true := Dv 66 rfl _ _ rfl rfl
      have d67 : a'.eval (.tmp 87) = .agg #[.slice (some ⟨g3, 0, none⟩) 2 2, .slice none 0 0, .slice none 0 0] := Dv 67 rfl _ _ rfl rfl
      have d68 : a'.eval (.tmp 88) = .slice (some ⟨g1, 0, none⟩) 3 3 := Dv 68 rfl _ _ rfl rfl
      have d71 : a'.eval (.tmp 91) = .agg #[.int .i64 0, .int .i64 2, .bool false] := Dv 71 rfl _ _ rfl rfl
      refine Rgs.call rfl (Reg.wanted_if rfl rfl dg rfl) 29 #[.agg #[.slice (some ⟨g3, 0, none⟩) 2 2, .slice none 0 0, .slice none 0 0], .slice (some ⟨g1, 0, none⟩) 3 3, .agg #[.int .i64 0, .int .i64 2, .bool false]] (by have c := Reg.consts a'; generalize a'.eval = ρ at *; simp [execOp, go_sem, c.1, c.2, d67, d68, d71]) ?_
      have hth := CFI.out w1 hW
      refine hth.mono ?_
      rintro e w5 ⟨rfl, hb5⟩
      exact ⟨_, rfl, rfl, hW.trans (hb5.mono hW.size), fun j v _ h => KnoV10.on hb5 j v h⟩
    · intro a' w1 live Sz E Dv Cl h0 hk hW
      have d66 : a'.eval (.tmp 86) = .bool true := Dv 66 rfl _ _ rfl rfl
      have d72 : a'.eval (.tmp 92) = .bool true := Dv 72 rfl _ _ rfl rfl
      exact Rgs.val rfl (Reg.wanted_free rfl) (.bool true) (by have c := Reg.consts a'; generalize a'.eval = ρ at *; simp [execOp, go_sem, c.1, c.2, d66, d72]) rfl hW
    · intro a' w1 live Sz E Dv Cl h0 hk hW
      have d73 : a'.eval (.tmp 93) = .bool true := Dv 73 rfl _ _ rfl rfl
      exact Rgs.val rfl (Reg.wanted_free rfl) (.bool true) (by have c := Reg.consts a'; generalize a'.eval = ρ at *; simp [execOp, go_sem, c.1, c.2, d73]) rfl hW
  · intro a' w4 live hs hd E Dv Hl hW
    have e0 : a'.eval (.tmp 0) = .bool true := by
      obtain ⟨v, hv, he⟩ := Dv 74 _ rfl
      exact (he 0 rfl).trans hv
    rw [Reg.act_lit a' 94 hs, hd]
    simp only [List.range, List.range.loop, List.map, e0]
    have HB3 := Lib.hid (HB9.out.trans (Below.mono hW HB9.out.size))
    clear E Dv Hl hW e0
    generalize a'.eval = ρ
    clear a' hs hd
    go_wp2_with fail
    go_ret
    exact Ans.mk rfl HB3.out
end Go.Proofs.Ytoaocdmcjjohgaa
