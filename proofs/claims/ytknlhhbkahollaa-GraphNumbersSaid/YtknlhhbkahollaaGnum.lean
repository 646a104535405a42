/- GraphNumbers: chapter 7's runs: of configurations of sixty tapes, of each few partitions and beyond, of one with channels of nobody, the program's answers are the document's own; a matrix that is not square leads to none. -/
import Derived.Test.YtknlhhbkahollaaLow2
import Derived.Test.YtknlhhbkahollaaCbox
import Derived.Test.YtknlhhbkahollaaSam7
import Derived.Test.YtknlhhbkahollaaGkno
namespace Go.Proofs.Ytknlhhbkahollaa.graphNumbers
open Go.ChangeShapes Go.WideShapes Go.ChangeAt Go.RowKit Tab
set_option linter.unusedSimpArgs false
set_option linter.unusedVariables false

/-- It answers a row of numbers, new, of no more than 400. -/
def TapeL (w : World) (e : Ending) (w' : World) : Prop := ∃ (A : Option Addr) (n c : Nat) (f : Nat → Int), e = .returned (.slice A n c) ∧ RdC w' w'.heap.size A n (fun j => .int .i64 (f j)) ∧ n ≤ 400 ∧ Below w.heap.size w w'
theorem TapeL.mk {w w' : World} {A : Option Addr} {n c B : Nat} {L : List Int} (h : OwnV 3 1 w' B A n c (is L)) (hn : n ≤ 400) (hb : Below w.heap.size w w') : TapeL w (.returned (.slice A n c)) w' := by
  refine ⟨A, n, c, fun j => L.getD j 0, rfl, fun h0 => ?_, hn, hb⟩
  have hl := h.len
  rw [is_length] at hl
  obtain ⟨ad, e, hlt, hc⟩ := h.rd (by rw [is_length]; omega)
  refine ⟨ad, e, hlt, fun j hj => hc j _ ?_⟩
  have hj' : j < L.length := by omega
  simp [is, hj']
set_option maxRecDepth 100000 in
set_option maxHeartbeats 4000000 in
theorem tape7_any (k : Nat) (w : World) (hk : k ≤ 100) : Calls Try.prog 8 #[.int .i64 (k : Int)] w (TapeL w) := by
  go_enter Try.func8, Try.ntmps8
  go_wp2_with fail
  obtain ⟨m, hm⟩ : ∃ m : Nat, (400 : Int) = (m : Int) := ⟨400, rfl⟩
  have hm1 : m ≤ 400 := by omega
  rw [hm]
  clear hm
  go_loopw [3, 4] (fun q s wr => ∃ (i c : Nat) (A : Option Addr) (L : List Int), i ≤ m ∧ s = .int .i64 i ∧ q = .slice A i c ∧ OwnV 3 1 wr w.heap.size A i c (is L) ∧ Below w.heap.size w wr) (fun _ s _ => m - (intOf s).toNat)
  case atStart => exact ⟨0, 0, none, [], by omega, rfl, rfl, OwnV.nil _ _ _ _, Below.refl _ _⟩
  case round =>
    obtain ⟨i, c, A, L, hi, rfl, rfl, hw, hb⟩ := hrel
    by_cases hlt : i < m
    · have hi4 : i ≤ 400 := by omega
      have h1 : i * i ≤ 400 * 400 := Nat.mul_le_mul hi4 hi4
      have h2 : i * k ≤ 400 * 100 := Nat.mul_le_mul hi4 hk
      have p1 : 0 ≤ (i : Int) * (i : Int) := by rw [← Int.natCast_mul]; omega
      have p2 : (i : Int) * (i : Int) ≤ 160000 := by rw [← Int.natCast_mul]; omega
      have p3 : 0 ≤ (i : Int) * (k : Int) := by rw [← Int.natCast_mul]; omega
      have p4 : (i : Int) * (k : Int) ≤ 40000 := by rw [← Int.natCast_mul]; omega
      clear h1 h2
      generalize hP : (i : Int) * (i : Int) = P at p1 p2
      generalize hQ : (i : Int) * (k : Int) = Q at p3 p4
      have hbs := hb.alloc hb.size (.cells #[.int .i64 ((P * 7 + (k : Int) * 41 + Q) % 211)] 3)
      have hw' := OwnV.below hw rfl (bl1 wr (.cells #[.int .i64 ((P * 7 + (k : Int) * 41 + Q) % 211)] 3))
      have hrd := rdV_new wr #[.int .i64 ((P * 7 + (k : Int) * 41 + Q) % 211)] 3 (is [(P * 7 + (k : Int) * 41 + Q) % 211]) rfl
      go_wp2_with (at_builtin; go_loud (refine wpList_appV elI rfl (.tmp 9) (.tmp 22) rfl rfl w.heap.size A i c _ rfl hw' _ 1 1 _ _ rfl hrd rfl (is_one _) (by omega) (by unfold maxLen; omega) hbs.size (i + 1) rfl (is (L ++ [(P * 7 + (k : Int) * 41 + Q) % 211])) (by rw [is_append]) ?_; intro A2 c2 w2 hw2 hb2 _))
      go_roundw
      case rel => exact ⟨i + 1, c2, A2, _, by omega, by go_num, rfl, hw2, hbs.trans hb2⟩
      case measure => simp [intOf]; omega
    · have hge : m ≤ i := by omega
      go_wp2_with fail
      go_ret
      exact TapeL.mk hw (by omega) hb
def P2 : List PtV := [zP, zP]
def C3 : List ChV := [⟨-1, 1, false, 0, 0, 0⟩, ⟨5, 0, false, 0, 0, 0⟩, ⟨0, 0, false, 0, 0, 0⟩]
theorem made_parts2 : (madeCells #[.string ⟨#[]⟩, .int .i64 0, .int .i64 0, .bool false, .bool false, .slice none 0 0, .int .i64 0, .int .i64 0, .int .i64 0, .int .i64 0, .int .i64 0] 22).toList = P2.flatMap pcl := by kernel_rfl
theorem make_2 (W : World) : (Instr.makeSlice 22 (.int .i64 2) (.int .i64 2)).run Try.prog W = .ok (.slice (some ⟨W.heap.size, 0, none⟩) 2 2) (W.alloc (.cells (madeCells #[.string ⟨#[]⟩, .int .i64 0, .int .i64 0, .bool false, .bool false, .slice none 0 0, .int .i64 0, .int .i64 0, .int .i64 0, .int .i64 0, .int .i64 0] 22) 54)) := run_makeP 2 (by omega) W
theorem cfg_lit (w : World) (Z : Array Value) (hZ : Z.toList = P2.flatMap pcl) : CfW ((w.alloc (.cells Z 54)).alloc (.cells #[.int .i64 (-1), .int .i64 1, .bool false, .int .i64 0, .int .u32 0, .int .i64 0, .int .i64 5, .int .i64 0, .bool false, .int .i64 0, .int .u32 0, .int .i64 0, .int .i64 0, .int .i64 0, .bool false, .int .i64 0, .int .u32 0, .int .i64 0] 36)) ((w.alloc (.cells Z 54)).alloc (.cells #[.int .i64 (-1), .int .i64 1, .bool false, .int .i64 0, .int .u32 0, .int .i64 0, .int .i64 5, .int .i64 0, .bool false, .int .i64 0, .int .u32 0, .int .i64 0, .int .i64 0, .int .i64 0, .bool false, .int .i64 0, .int .u32 0, .int .i64 0] 36)).heap.size (some ⟨w.heap.size, 0, none⟩) (some ⟨w.heap.size + 1, 0, none⟩) 2 3 P2 C3 := by
  refine ⟨RdB.on (⟨rfl, rdV_new w Z 54 _ hZ⟩ : RdB pcl (w.alloc (.cells Z 54)) (w.alloc (.cells Z 54)).heap.size (some ⟨w.heap.size, 0, none⟩) 2 P2) (bl1 _ _), ?_⟩
  have e : (w.alloc (.cells Z 54)).heap.size = w.heap.size + 1 := by simp
  have := rdV_new (w.alloc (.cells Z 54)) #[.int .i64 (-1), .int .i64 1, .bool false, .int .i64 0, .int .u32 0, .int .i64 0, .int .i64 5, .int .i64 0, .bool false, .int .i64 0, .int .u32 0, .int .i64 0, .int .i64 0, .int .i64 0, .bool false, .int .i64 0, .int .u32 0, .int .i64 0] 36 (C3.flatMap cc) rfl
  rw [e] at this
  exact ⟨rfl, this⟩
theorem mat_lit (w : World) : RdM (((w.alloc (.cells #[.bool true] 4)).alloc (.cells #[.bool false, .bool true] 4)).alloc (.cells #[.slice (some ⟨w.heap.size, 0, none⟩) 1 1, .slice (some ⟨w.heap.size + 1, 0, none⟩) 2 2] 40))
    (((w.alloc (.cells #[.bool true] 4)).alloc (.cells #[.bool false, .bool true] 4)).alloc (.cells #[.slice (some ⟨w.heap.size, 0, none⟩) 1 1, .slice (some ⟨w.heap.size + 1, 0, none⟩) 2 2] 40)).heap.size (some ⟨w.heap.size + 1 + 1, 0, none⟩) 2 (fun i => if i = 0 then 1 else 2) (fun i j => if i = 0 then true else if j = 0 then false else true) := by
  have s1 : (w.alloc (.cells #[.bool true] 4)).heap.size = w.heap.size + 1 := by simp
  have s2 : ((w.alloc (.cells #[.bool true] 4)).alloc (.cells #[.bool false, .bool true] 4)).heap.size = w.heap.size + 1 + 1 := by simp
  have v0 : Vec (w.alloc (.cells #[.bool true] 4)) w.heap.size 1 fun _ => .bool true := Vec.lit w _ _ 1 _ fun j hj => by
    obtain rfl : j = 0 := by omega
    rfl
  have v1 := Vec.lit (w.alloc (.cells #[.bool true] 4)) #[.bool false, .bool true] 4 2 (fun j => .bool (if j = 0 then false else true)) fun j hj => by
    rcases (by omega : j = 0 ∨ j = 1) with rfl | rfl <;> rfl
  have v2 := Vec.lit ((w.alloc (.cells #[.bool true] 4)).alloc (.cells #[.bool false, .bool true] 4)) #[.slice (some ⟨w.heap.size, 0, none⟩) 1 1, .slice (some ⟨w.heap.size + 1, 0, none⟩) 2 2] 40 2 (fun j => .slice (if j = 0 then some ⟨w.heap.size, 0, none⟩ else some ⟨w.heap.size + 1, 0, none⟩) (if j = 0 then 1 else 2) (if j = 0 then 1 else 2)) fun j hj => by
    rcases (by omega : j = 0 ∨ j = 1) with rfl | rfl <;> rfl
  rw [s1] at v1
  rw [s2] at v2
  have v0' := (v0.on (bl1 _ (.cells #[.bool false, .bool true] 4))).on (bl1 _ (.cells #[.slice (some ⟨w.heap.size, 0, none⟩) 1 1, .slice (some ⟨w.heap.size + 1, 0, none⟩) 2 2] 40))
  have v1' := v1.on (bl1 _ (.cells #[.slice (some ⟨w.heap.size, 0, none⟩) 1 1, .slice (some ⟨w.heap.size + 1, 0, none⟩) 2 2] 40))
  refine ⟨fun j => (if j = 0 then some ⟨w.heap.size, 0, none⟩ else some ⟨w.heap.size + 1, 0, none⟩, if j = 0 then 1 else 2), v2.rdc, fun i hi => ?_⟩
  rcases (by omega : i = 0 ∨ i = 1) with rfl | rfl
  · exact ⟨Nat.le_refl _, v0'.rdc⟩
  · exact ⟨Nat.le_refl _, v1'.rdc⟩
set_option maxRecDepth 100000 in
set_option maxHeartbeats 8000000 in
theorem walk (w : World) :
    Calls Try.prog 3 #[] w (Ans (.bool true) w) := by
  go_enter Try.func3, Try.ntmps3
  have hmk := make_2
  obtain ⟨Z, hZ⟩ : ∃ Z, Z = madeCells #[.string ⟨#[]⟩, .int .i64 0, .int .i64 0, .bool false, .bool false, .slice none 0 0, .int .i64 0, .int .i64 0, .int .i64 0, .int .i64 0, .int .i64 0] 22 := ⟨_, rfl⟩
  have hZl : Z.toList = P2.flatMap pcl := by rw [hZ]; exact made_parts2
  rw [← hZ] at hmk
  have HZL := Lib.hid hZl
  have HMK := Lib.hid hmk
  clear hZ hZl hmk
  go_wp2_with fail
  obtain ⟨m, hm⟩ : ∃ m : Nat, (60 : Int) = (m : Int) := ⟨60, rfl⟩
  have hm1 : m ≤ 60 := by omega
  rw [hm]
  clear hm
  go_loopw [1, 2, 3, 4, 13] (fun s _ _ _ _ wr => ∃ k : Nat, k ≤ m ∧ s = .int .i64 k ∧ Below w.heap.size w wr) (fun s _ _ _ _ _ => m - (intOf s).toNat)
  case atStart => exact ⟨0, by omega, rfl, Below.refl _ _⟩
  case round =>
    obtain ⟨k, hk, rfl, hb⟩ := hrel
    have HB := Lib.hid hb
    clear hb
    by_cases hkm : k < m
    · have hkmi : (k : Int) < (m : Int) := by omega
      go_wp2_with fail
      refine (tape7_any k wr (by omega)).mono ?_
      rintro e w1 ⟨A0, n0, k0, f0, rfl, hr0, hn0, hb1⟩
      have HB1 := Lib.hid (HB.out.trans (hb1.mono HB.out.size))
      have HR0 := Lib.hid hr0
      clear hr0 hb1 HB
      go_wp2_with fail
      refine (config_box A0 n0 k0 f0 w1 HR0.out (by omega)).mono ?_
      rintro e w2 ⟨A1, A2, A3, n1, n2, n3, c1, c2, c3, P, C, T, rfl, hCf, q1, q2, q3, q4, q5, hco, _, _, _, _, _, hb2⟩
      have hbl := bl1 w2 (.cells #[.slice A1 n1 c1, .slice A2 n2 c2, .slice A3 n3 c3] 26)
      have hbox := box_vec w2 (.slice A1 n1 c1) (.slice A2 n2 c2) (.slice A3 n3 c3) 26
      have HCF := Lib.hid (hCf.on hbl)
      have hb3 := hb2.trans (hbl.mono hb2.size)
      have HBW := Lib.hid (HB1.out.trans (hb3.mono HB1.out.size))
      have HBX := Lib.hid hbox
      clear hCf hb2 hb3 hbl hbox hco HR0 HB1
      go_upto_region 5 with fail
      generalize w2.alloc (.cells #[.slice A1 n1 c1, .slice A2 n2 c2, .slice A3 n3 c3] 26) = W at HCF HBW HBX ⊢
      generalize w2.heap.size = gq at HBX ⊢
      go_wp2_with fail
      go_loopw [3, 13] (fun s _ wx => ∃ a : Int, s = .int .i64 a ∧ -2 ≤ a ∧ a ≤ 6 ∧ Below W.heap.size W wx) (fun s _ _ => (6 - intOf s).toNat)
      case atStart => exact ⟨-2, rfl, by omega, by omega, Below.refl _ _⟩
      case round =>
        obtain ⟨a, rfl, ha1, ha2, hb⟩ := hrel
        by_cases ha : a < 6
        · obtain ⟨m0, m1, m2⟩ := (HBX.out.on hb).three
          have HSM := Lib.hid fun (b : Int) => same7_any A1 A2 A3 n1 n2 n3 c1 c2 c3 P C a b wr (HCF.out.on hb) (by omega) (by omega)
          have HBr := Lib.hid hb
          clear hb
          go_wp2_with fail
          refine (HSM.out _).mono ?_
          rintro e w5 ⟨rfl, hb5⟩
          have HB5 := Lib.hid (HBr.out.trans (hb5.mono HBr.out.size))
          clear hb5 m0 m1 m2 HSM
          go_wp2_with fail
          go_roundw
          case rel => exact ⟨a + 1, by go_num, by omega, by omega, HB5.out⟩
          case measure => simp [intOf]; omega
        · have HBr := Lib.hid (HBW.out.trans (hb.mono HBW.out.size))
          clear hb
          go_wp2_with fail
          go_roundw
          case rel => exact ⟨k + 1, by omega, by go_num, HBr.out⟩
          case measure => simp [intOf]; omega
    · have hkmi : ¬ (k : Int) < (m : Int) := by omega
      have hmk := HMK.out
      have hcf := cfg_lit wr Z HZL.out
      have hbz : Below wr.heap.size wr ((wr.alloc (.cells Z 54)).alloc (.cells #[.int .i64 (-1), .int .i64 1, .bool false, .int .i64 0, .int .u32 0, .int .i64 0, .int .i64 5, .int .i64 0, .bool false, .int .i64 0, .int .u32 0, .int .i64 0, .int .i64 0, .int .i64 0, .bool false, .int .i64 0, .int .u32 0, .int .i64 0] 36)) := (bl1 wr _).alloc (by simp) _
      have HSM := Lib.hid (same7_any (some ⟨wr.heap.size, 0, none⟩) (some ⟨wr.heap.size + 1, 0, none⟩) none 2 3 0 2 3 0 P2 C3 0 1 _ hcf (by omega) (by omega))
      have HBZ := Lib.hid (HB.out.trans (hbz.mono HB.out.size))
      clear hcf hbz HB
      go_wp2_with fail
      refine HSM.out.mono ?_
      rintro e w5 ⟨rfl, hb5⟩
      have hb6 := HBZ.out.trans (hb5.mono HBZ.out.size)
      have hb7 : Below w5.heap.size w5 (((w5.alloc (.cells #[.bool true] 4)).alloc (.cells #[.bool false, .bool true] 4)).alloc (.cells #[.slice (some ⟨w5.heap.size, 0, none⟩) 1 1, .slice (some ⟨w5.heap.size + 1, 0, none⟩) 2 2] 40)) := ((bl1 w5 _).alloc (by simp) _).alloc (by simp; omega) _
      have HCL := Lib.hid (closure_none (some ⟨w5.heap.size + 1 + 1, 0, none⟩) 2 2 _ _ _ (mat_lit w5) (by omega) (by decide))
      have HB7 := Lib.hid (hb6.trans (hb7.mono hb6.size))
      clear hb5 hb6 hb7 HSM HBZ hmk
      go_wp2_with fail
      refine HCL.out.mono ?_
      rintro e w6 ⟨rfl, hb6⟩
      have HB8 := Lib.hid (HB7.out.trans (hb6.mono HB7.out.size))
      clear hb6 HCL HB7
      have hmx := matrix_any none none 0 0 0 0 (fun _ => 0) (fun _ => 0) (fun _ _ => false) (fun _ _ => false) w6 (RdM.none _ _ _ _) (RdM.none _ _ _ _) (by omega) (fun _ _ => by omega)
      rw [matB_iff.2 ⟨rfl, fun i hi => by omega⟩] at hmx
      have HMX := Lib.hid hmx
      clear hmx
      go_wp2_with fail
      refine HMX.out.mono ?_
      intro e w7 hq
      obtain ⟨rfl, hb7⟩ := hq.ans
      have HB9 := Lib.hid (HB8.out.trans (hb7.mono HB8.out.size))
      clear hq hb7 HMX HB8
      go_wp2_with fail
      refine (known7_any w7).mono ?_
      rintro e w8 ⟨rfl, hb8⟩
      go_wp2_with fail
      go_ret
      exact Ans.mk rfl (HB9.out.trans (hb8.mono HB9.out.size))

set_option maxRecDepth 100000 in
theorem lifted (os : Os) (started : os.Started) (H : Type) (enc : TypeId × Value → H) :
    ReturnsInHanded {} Try.checked os 3 .any (Rows.graphNumbersSpec.pre6 enc Try.prog Try.f3 Rows.graphNumbersRow.domain false) (Rows.graphNumbersSpec.post enc Try.prog Try.f3 false true false false) := by
  refine returnsInHanded_of_change_sized (C := Try.checked) own started (by kernel_rfl) Try.func3
    (ChangeSpec.witness6 (enc := enc) (C := Try.checked) false ⟨#[], #[], []⟩ 8 (by kernel_rfl) (by kernel_rfl) (by kernel_rfl) (by kernel_rfl)) ?_
  intro W base args ds gs before hval0 hW hcnd hsz0 _
  have hval : ∀ (j : Nat) t v, Try.f3.params[j]? = some t → args[j]? = some v → Value.okWide Try.prog W .any base t v := hval0
  have hW' := hW
  obtain ⟨p, q, hA0, hV, rfl, hfz, hnd⟩ := hW
  have hA : DataW.TrodAll enc Try.prog W 0 (fun _ => true) true Try.f3.params.toList args.toList ds p := hA0
  rw [Try.params3] at hA hval
  obtain ⟨rfl, rfl, rfl⟩ := trodAll_none hA
  obtain ⟨rfl, rfl⟩ := trodVars_none hV
  clear hA0 hval0
  refine (walk  W ).mono fun e W' ⟨he, bel⟩ => ?_
  subst he
  exact ⟨_, rfl, _, _, _, [], _, [], hW', trodAll_mk1 (shut_bool Try.underlying4 _), trodAll_mk0, rfl, bel.frame _, fun h => by cases h⟩

theorem proved : Rows.GraphNumbersSaid :=
  OpenClaim.holds_of_wide 3 Try.f3 rfl rfl rfl rfl rfl rfl rfl ⟨rfl, rfl, rfl, rfl, rfl⟩ rfl rfl rfl rfl rfl (by kernel_rfl) Try.func3 (by kernel_rfl)
    (of_decide_eq_true (by kernel_rfl)) (by unfold Func.isWrapper; first | (rw [if_pos (by decide +kernel)]; kernel_rfl) | (rw [if_neg (by decide +kernel)]; exact ⟨rfl, rfl⟩))
    (fun os started H enc _ => lifted os started H enc)

end Go.Proofs.Ytknlhhbkahollaa.graphNumbers
