/- Chapter 7's runs. -/
import Derived.Test.YtknlhhbkahollaaGrea
import Derived.Test.YtknlhhbkahollaaLow2
import Derived.Test.YtknlhhbkahollaaLow4
import Derived.Laws.StructEq
import Derived.BigQuiet
import Derived.Test.YtknlhhbkahollaaSame
namespace Go.Proofs.Ytknlhhbkahollaa
open Go.RowKit Tab
set_option linter.unusedSimpArgs false
set_option linter.unusedVariables false

def zP : PtV := ⟨⟨#[]⟩, 0, 0, false, false, none, 0, 0, 0, 0, 0, 0, 0⟩
def P7 : List PtV := [zP, zP, zP]
def C7 : List ChV := [⟨0, 1, false, 0, 0, 0⟩, ⟨1, 2, true, 0, 0, 0⟩]
theorem elP : Elt 22 54 11 104 (.agg #[.string ⟨#[]⟩, .int .i64 0, .int .i64 0, .bool false, .bool false, .slice none 0 0, .int .i64 0, .int .i64 0, .int .i64 0, .int .i64 0, .int .i64 0]) := ⟨Try.underlying22, by kernel_rfl, rfl, by omega⟩
theorem elC : Elt 23 36 6 48 (.agg #[.int .i64 0, .int .i64 0, .bool false, .int .i64 0, .int .u32 0, .int .i64 0]) := ⟨Try.underlying23, by kernel_rfl, rfl, by omega⟩
theorem run_makeP (m : Nat) (hm : m ≤ 1024) (W : World) : (Instr.makeSlice 22 (.int .i64 (m : Int)) (.int .i64 (m : Int))).run Try.prog W = .ok (.slice (some ⟨W.heap.size, 0, none⟩) m m) (W.alloc (.cells (madeCells #[.string ⟨#[]⟩, .int .i64 0, .int .i64 0, .bool false, .bool false, .slice none 0 0, .int .i64 0, .int .i64 0, .int .i64 0, .int .i64 0, .int .i64 0] (m * 11)) 54)) := by
  obtain ⟨i, hi, hz, hs, hby⟩ := info_parts elP.hi
  have hr := run_make (P := Try.prog) W 22 54 i _ elP.ht hi hz .i64 .i64 m m (by omega) (by omega) (by rw [hby]; omega) (by omega)
  rw [hs] at hr
  simp only [Int.toNat_natCast] at hr
  exact hr
theorem made_parts : (madeCells #[.string ⟨#[]⟩, .int .i64 0, .int .i64 0, .bool false, .bool false, .slice none 0 0, .int .i64 0, .int .i64 0, .int .i64 0, .int .i64 0, .int .i64 0] 33).toList = P7.flatMap pcl := by kernel_rfl
theorem k7_1 : swayF (P7.map ptOf) (C7.map chOf) 0 1 = true := by kernel_rfl
theorem k7_2 : swayF (P7.map ptOf) (C7.map chOf) 1 0 = false := by kernel_rfl
theorem k7_3 : swayF (P7.map ptOf) (C7.map chOf) 2 1 = true := by kernel_rfl
theorem k7_4 : depF (P7.map ptOf) (C7.map chOf) 1 0 = true := by kernel_rfl
theorem k7_5 : depF (P7.map ptOf) (C7.map chOf) 0 2 = false := by kernel_rfl
theorem k7_6 : freeF (P7.map ptOf) (C7.map chOf) (-1) 0 = true := by kernel_rfl
theorem k7_7 : freeF (P7.map ptOf) (C7.map chOf) 0 2 = true := by kernel_rfl
theorem k7_8 : freeF (P7.map ptOf) (C7.map chOf) 0 9 = false := by kernel_rfl
theorem k7_9 : reachL (P7.map ptOf) (C7.map chOf) 1 = [0, 1, 2] := by kernel_rfl
theorem k7_10 : reachL (P7.map ptOf) (C7.map chOf) 0 = [0] := by kernel_rfl
theorem make_3 (W : World) : (Instr.makeSlice 22 (.int .i64 3) (.int .i64 3)).run Try.prog W = .ok (.slice (some ⟨W.heap.size, 0, none⟩) 3 3) (W.alloc (.cells (madeCells #[.string ⟨#[]⟩, .int .i64 0, .int .i64 0, .bool false, .bool false, .slice none 0 0, .int .i64 0, .int .i64 0, .int .i64 0, .int .i64 0, .int .i64 0] 33) 54)) := run_makeP 3 (by omega) W
theorem closure_nil (w : World) : Calls Try.prog 12 #[.slice none 0 0] w (MadG 0 (War (fun _ _ => false) 0) w) :=
  closure_any none 0 0 (fun _ _ => false) w (RdM.none _ _ _ _) (by omega)
set_option maxRecDepth 100000 in
set_option maxHeartbeats 4000000 in
theorem known7_any (w : World) : Calls Try.prog 13 #[] w (Ans (.bool true) w) := by
  have hmk := make_3
  obtain ⟨Z, hZ⟩ : ∃ Z, Z = madeCells #[.string ⟨#[]⟩, .int .i64 0, .int .i64 0, .bool false, .bool false, .slice none 0 0, .int .i64 0, .int .i64 0, .int .i64 0, .int .i64 0, .int .i64 0] 33 := ⟨_, rfl⟩
  have hZl : Z.toList = P7.flatMap pcl := by rw [hZ]; exact made_parts
  rw [← hZ] at hmk
  obtain ⟨W, hW⟩ : ∃ W, W = ((w.alloc (.cells Z 54)).alloc (.cells #[.int .i64 0, .int .i64 1, .bool false, .int .i64 0, .int .u32 0, .int .i64 0, .int .i64 1, .int .i64 2, .bool true, .int .i64 0, .int .u32 0, .int .i64 0] 36)).alloc (.cells #[.slice (some ⟨w.heap.size, 0, none⟩) 3 3, .slice (some ⟨w.heap.size + 1, 0, none⟩) 2 2, .slice none 0 0] 26) := ⟨_, rfl⟩
  have hb0 : Below w.heap.size w W := by rw [hW]; exact ((bl1 w _).alloc (by simp) _).alloc (by simp; omega) _
  have hP : RdB pcl W W.heap.size (some ⟨w.heap.size, 0, none⟩) 3 P7 := by
    rw [hW]
    exact (RdB.on (RdB.on (⟨rfl, rdV_new w Z 54 _ hZl⟩ : RdB pcl (w.alloc (.cells Z 54)) (w.alloc (.cells Z 54)).heap.size (some ⟨w.heap.size, 0, none⟩) 3 P7) (bl1 _ _)) (bl1 _ _))
  have hC : RdB cc W W.heap.size (some ⟨w.heap.size + 1, 0, none⟩) 2 C7 := by
    rw [hW]
    have e : (w.alloc (.cells Z 54)).heap.size = w.heap.size + 1 := by simp
    have := rdV_new (w.alloc (.cells Z 54)) #[.int .i64 0, .int .i64 1, .bool false, .int .i64 0, .int .u32 0, .int .i64 0, .int .i64 1, .int .i64 2, .bool true, .int .i64 0, .int .u32 0, .int .i64 0] 36 (C7.flatMap cc) rfl
    rw [e] at this
    exact RdB.on (⟨rfl, this⟩ : RdB cc _ _ _ 2 C7) (bl1 _ _)
  have hbox : Vec W (w.heap.size + 1 + 1) 3 fun j => if j = 0 then .slice (some ⟨w.heap.size, 0, none⟩) 3 3 else if j = 1 then .slice (some ⟨w.heap.size + 1, 0, none⟩) 2 2 else .slice none 0 0 := by
    have := box_vec ((w.alloc (.cells Z 54)).alloc (.cells #[.int .i64 0, .int .i64 1, .bool false, .int .i64 0, .int .u32 0, .int .i64 0, .int .i64 1, .int .i64 2, .bool true, .int .i64 0, .int .u32 0, .int .i64 0] 36)) (.slice (some ⟨w.heap.size, 0, none⟩) 3 3) (.slice (some ⟨w.heap.size + 1, 0, none⟩) 2 2) (.slice none 0 0) 26
    have e : ((w.alloc (.cells Z 54)).alloc (.cells #[.int .i64 0, .int .i64 1, .bool false, .int .i64 0, .int .u32 0, .int .i64 0, .int .i64 1, .int .i64 2, .bool true, .int .i64 0, .int .u32 0, .int .i64 0] 36)).heap.size = w.heap.size + 1 + 1 := by simp
    rw [e] at this
    rw [hW]
    exact this
  have HW := Lib.hid hW
  have HB0 := Lib.hid hb0
  clear hZ hZl hW hb0
  go_enter Try.func13, Try.ntmps13
  go_upto_region 2 with fail
  rw [← HW.out]
  generalize w.heap.size + 1 + 1 = gc at hbox ⊢
  generalize w.heap.size + 1 = g2 at hC hbox ⊢
  obtain ⟨g1, hg1⟩ : ∃ g1, g1 = w.heap.size := ⟨_, rfl⟩
  rw [← hg1] at hP hbox ⊢
  have hCf : CfW W W.heap.size (some ⟨g1, 0, none⟩) (some ⟨g2, 0, none⟩) 3 2 P7 C7 := ⟨hP, hC⟩
  have HCF := Lib.hid hCf
  have HBX := Lib.hid fun w' (hb : Below W.heap.size W w') => (hbox.on hb).three
  clear hg1 hCf hP hC hmk hbox
  obtain ⟨m0, m1, m2⟩ := HBX.out W (Below.refl _ _)
  have HSW := Lib.hid (sways_any (some ⟨g1, 0, none⟩) (some ⟨g2, 0, none⟩) none 3 2 0 3 2 0 P7 C7 W HCF.out (by omega) (by omega))
  go_wp2_with fail
  refine HSW.out.mono ?_
  rintro e w1 ⟨g, G, rfl, hM1, hb1⟩
  have HDE := Lib.hid (depends_any (some ⟨g1, 0, none⟩) (some ⟨g2, 0, none⟩) none 3 2 0 3 2 0 P7 C7 w1 (HCF.out.on hb1) (by omega) (by omega))
  have HM1 := Lib.hid hM1
  have HB1 := Lib.hid hb1
  obtain ⟨m0, m1, m2⟩ := HBX.out w1 hb1
  clear hM1 hb1 HSW
  go_wp2_with fail
  refine HDE.out.mono ?_
  rintro e w2 ⟨h, H, rfl, hM2, hb2⟩
  have hM1 := HM1.out.on hb2
  have hb3 := HB1.out.trans (hb2.mono HB1.out.size)
  obtain ⟨x0, _, _, p0, v0⟩ := hM1.row (i := 0) (by omega) (by omega)
  obtain ⟨x1, _, _, p1, v1⟩ := hM1.row (i := 1) (by omega) (by omega)
  obtain ⟨x2, _, _, p2, v2⟩ := hM1.row (i := 2) (by omega) (by omega)
  obtain ⟨y0, _, _, q0, u0⟩ := hM2.row (i := 0) (by omega) (by omega)
  obtain ⟨y1, _, _, q1, u1⟩ := hM2.row (i := 1) (by omega) (by omega)
  have r0 := v0.cell 1 (by omega)
  have r1 := v1.cell 0 (by omega)
  have r2 := v2.cell 1 (by omega)
  have r3 := u1.cell 0 (by omega)
  have r4 := u0.cell 2 (by omega)
  rw [k7_1] at r0
  rw [k7_2] at r1
  rw [k7_3] at r2
  rw [k7_4] at r3
  rw [k7_5] at r4
  obtain ⟨m0, m1, m2⟩ := HBX.out w2 hb3
  have HFR := Lib.hid fun a b w' (hb : Below W.heap.size W w') => free_any (some ⟨g1, 0, none⟩) (some ⟨g2, 0, none⟩) none 3 2 0 3 2 0 P7 C7 a b w' (HCF.out.on hb) (by omega) (by omega)
  have HF1 := Lib.hid (HFR.out (-1) 0 w2 hb3)
  rw [k7_6] at HF1
  have HB3 := Lib.hid hb3
  clear v0 v1 v2 u0 u1 hM1 hM2 hb2 hb3 HM1 HDE
  go_wp2_with fail
  refine HF1.out.mono ?_
  rintro e w3 ⟨rfl, hb4⟩
  have hb5 := HB3.out.trans (hb4.mono HB3.out.size)
  obtain ⟨m0, m1, m2⟩ := HBX.out w3 hb5
  have HF2 := Lib.hid (HFR.out 0 2 w3 hb5)
  rw [k7_7] at HF2
  have HB5 := Lib.hid hb5
  clear hb4 hb5 p0 p1 p2 q0 q1 r0 r1 r2 r3 r4 HF1
  go_wp2_with fail
  refine HF2.out.mono ?_
  rintro e w4 ⟨rfl, hb6⟩
  have hb7 := HB5.out.trans (hb6.mono HB5.out.size)
  obtain ⟨m0, m1, m2⟩ := HBX.out w4 hb7
  have HF3 := Lib.hid (HFR.out 0 9 w4 hb7)
  rw [k7_8] at HF3
  have HB7 := Lib.hid hb7
  clear hb6 hb7 HF2
  go_wp2_with fail
  refine HF3.out.mono ?_
  rintro e w5 ⟨rfl, hb8⟩
  have hb9 := HB7.out.trans (hb8.mono HB7.out.size)
  have HB9 := Lib.hid hb9
  clear hb8 hb9 HF3
  go_wp2_with fail
  refine (closure_nil w5).mono ?_
  rintro e w6 ⟨g6, G6, rfl, _, hb10⟩
  have hb11 := HB9.out.trans (hb10.mono HB9.out.size)
  obtain ⟨m0, m1, m2⟩ := HBX.out w6 hb11
  have HRE := Lib.hid fun (p : Nat) w' (hb : Below W.heap.size W w') (hp : p < 3) => reach_any (some ⟨g1, 0, none⟩) (some ⟨g2, 0, none⟩) none 3 2 0 3 2 0 P7 C7 p w' (HCF.out.on hb) (by omega) (by omega) hp
  have HR1 := Lib.hid (HRE.out 1 w6 hb11 (by omega))
  rw [k7_9] at HR1
  have HB11 := Lib.hid hb11
  clear hb10 hb11 HFR
  go_wp2_with fail
  refine HR1.out.mono ?_
  rintro e w7 ⟨A7, c7, rfl, ho7, hb12⟩
  have hb13 := HB11.out.trans (hb12.mono HB11.out.size)
  have hbl := bl1 w7 (.cells #[.int .i64 0, .int .i64 1, .int .i64 2] 3)
  have hrd7 : RdI (w7.alloc (.cells #[.int .i64 0, .int .i64 1, .int .i64 2] 3)) (w7.alloc (.cells #[.int .i64 0, .int .i64 1, .int .i64 2] 3)).heap.size A7 3 [0, 1, 2] := (ho7.below rfl hbl).rdi
  have hlit7 : RdI (w7.alloc (.cells #[.int .i64 0, .int .i64 1, .int .i64 2] 3)) (w7.alloc (.cells #[.int .i64 0, .int .i64 1, .int .i64 2] 3)).heap.size (some ⟨w7.heap.size, 0, none⟩) 3 [0, 1, 2] := ⟨rfl, rdV_new w7 _ _ _ rfl⟩
  have HSA := Lib.hid (ints_same A7 (some ⟨w7.heap.size, 0, none⟩) 3 c7 3 [0, 1, 2] _ hrd7 hlit7 (by omega))
  have HB13 := Lib.hid (hb13.trans (hbl.mono hb13.size))
  clear ho7 hb12 hb13 hbl hrd7 hlit7 HR1
  go_wp2_with fail
  refine HSA.out.mono ?_
  rintro e w8 ⟨rfl, hb14⟩
  have hb15 := HB13.out.trans (hb14.mono HB13.out.size)
  obtain ⟨m0, m1, m2⟩ := HBX.out w8 hb15
  have HR2 := Lib.hid (HRE.out 0 w8 hb15 (by omega))
  rw [k7_10] at HR2
  have HB15 := Lib.hid hb15
  clear hb14 hb15 HSA
  go_wp2_with fail
  refine HR2.out.mono ?_
  rintro e w9 ⟨A9, c9, rfl, ho9, hb16⟩
  have hb17 := HB15.out.trans (hb16.mono HB15.out.size)
  have hbl := bl1 w9 (.cells #[.int .i64 0] 3)
  have hrd9 : RdI (w9.alloc (.cells #[.int .i64 0] 3)) (w9.alloc (.cells #[.int .i64 0] 3)).heap.size A9 1 [0] := (ho9.below rfl hbl).rdi
  have hlit9 : RdI (w9.alloc (.cells #[.int .i64 0] 3)) (w9.alloc (.cells #[.int .i64 0] 3)).heap.size (some ⟨w9.heap.size, 0, none⟩) 1 [0] := ⟨rfl, rdV_new w9 _ _ _ rfl⟩
  have HSB := Lib.hid (ints_same A9 (some ⟨w9.heap.size, 0, none⟩) 1 c9 1 [0] _ hrd9 hlit9 (by omega))
  have HB17 := Lib.hid (hb17.trans (hbl.mono hb17.size))
  clear ho9 hb16 hb17 hbl hrd9 hlit9 HR2
  go_wp2_with fail
  refine HSB.out.mono ?_
  rintro e w10 ⟨rfl, hb18⟩
  have hb19 := HB17.out.trans (hb18.mono HB17.out.size)
  obtain ⟨m0, m1, m2⟩ := HBX.out w10 hb19
  have HR3 := Lib.hid (reach_none (some ⟨g1, 0, none⟩) (some ⟨g2, 0, none⟩) none 3 2 0 3 2 0 5 w10 (by kernel_rfl))
  have HB19 := Lib.hid hb19
  clear hb18 hb19 HSB
  go_wp2_with fail
  refine HR3.out.mono ?_
  rintro e w11 ⟨A11, c11, rfl, _, hb20⟩
  have hb21 := HB19.out.trans (hb20.mono HB19.out.size)
  clear hb20
  go_wp2_with fail
  go_ret
  exact ⟨rfl, HB0.out.trans (hb21.mono HB0.out.size)⟩
end Go.Proofs.Ytknlhhbkahollaa
