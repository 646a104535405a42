/- GraphClosed: for any matrix of bools: of its first eight rows, cut to a square, the closing is as large, has what the square has, and closing it again leaves it as it is; chapter 7's runs are as they must be. -/
import Derived.Test.YtknlhhbkahollaaLow2
import Derived.Test.YtknlhhbkahollaaLow3
import Derived.Test.YtknlhhbkahollaaGkno
namespace Go.Proofs.Ytknlhhbkahollaa.graphClosed
open Go.ChangeShapes Go.WideShapes Go.ChangeAt Go.RowKit Tab
set_option linter.unusedSimpArgs false
set_option linter.unusedVariables false

set_option maxRecDepth 100000 in
set_option maxHeartbeats 2000000 in
theorem walk (A0 : Option Addr) (n0 k0 : Nat) (l0 : Nat → Nat) (m0 : Nat → Nat → Bool) (w : World) (r0 : RdM w w.heap.size A0 n0 l0 m0) (c0 : n0 ≤ k0) (b0 : k0 ≤ maxLen) (z0 : ∀ j, j < n0 → l0 j ≤ maxLen) :
    Calls Try.prog 7 #[.slice A0 n0 k0] w (Ans (.bool true) w) := by
  obtain ⟨N, hN⟩ : ∃ N, N = min n0 8 := ⟨_, rfl⟩
  have hN8 : N ≤ 8 := by omega
  have hRM : RdM w w.heap.size A0 N l0 m0 := r0.front N (by omega)
  have HRM := Lib.hid hRM
  have HNE := Lib.hid hN
  have HK0 := Lib.hid b0
  clear hRM r0 z0 b0 hN
  go_enter Try.func7, Try.ntmps7
  have hmk := run_makeBB N (by omega)
  have hmb := run_makeB N (by omega)
  obtain ⟨B, hB⟩ : ∃ B, B = w.heap.size := ⟨_, rfl⟩
  have HBB := Lib.hid hB
  have hb0 : Below B w (w.alloc (.cells (madeCells #[.slice none 0 0] N) 40)) := by rw [hB]; exact bl1 w _
  have hM0 := Mat.start w B N (by omega) 40 (fun _ _ => false) (fun _ => 0)
  clear hB
  go_upto_region 1 with fail
  by_cases h8 : 8 < n0
  · have h8i : (8 : Int) < (n0 : Int) := by omega
    have hNe : 8 = N := by have := HNE.out; omega
    have h8c : 8 ≤ k0 := by omega
    have hv : Value.slice A0 8 k0 = Value.slice A0 N k0 := by rw [hNe]
    have HNE2 := Lib.hid hNe
    have HV8 := Lib.hid hv
    clear hNe hv
    go_upto_region 3 with fail
    rw [HV8.out]
    clear h8 h8i h8c
    go_wp2_with fail
    generalize w.alloc (.cells (madeCells #[.slice none 0 0] N) 40) = W0 at hb0 hM0 ⊢
    obtain ⟨g, hg⟩ : ∃ g, g = w.heap.size := ⟨_, rfl⟩
    rw [← hg] at hM0 ⊢
    clear hg hmk
    go_loopw [4, 19] (fun _ s wr => ∃ (i : Nat) (G : Nat → Nat) (m : Nat → Nat → Bool), i ≤ N ∧ s = .int .i64 i ∧ Mat wr B g N i G m ∧ Below B w wr) (fun _ s _ => N - (intOf s).toNat)
    case atStart => exact ⟨0, _, _, by omega, rfl, hM0, hb0⟩
    case round =>
      obtain ⟨i, G, m, hi, rfl, hM, hb⟩ := hrel
      clear hM0 hb0
      by_cases hlt : i < N
      · have hbl := bl1 wr (.cells (madeCells #[.bool false] N) 4)
        have hM1 := hM.on hbl
        have hV : Vec (wr.alloc (.cells (madeCells #[.bool false] N) 4)) wr.heap.size N fun _ => .bool false := Vec.lit wr _ _ N _ fun j hj => made_get _ N j hj
        have hgl : g < wr.heap.size := by
          obtain ⟨f, h1, _⟩ := hM.outer
          exact h1.lt
        have hBg := hM.low
        have hb1 := hb.trans (hbl.mono (by omega))
        have hxG : ∀ j, j < i → G j ≠ wr.heap.size := fun j hj => by
          have := (hM.rows j hj).lt
          omega
        obtain ⟨f, hf, _⟩ := hM1.outer
        have d0 := hf.cell i hlt
        have d1 := hf.thaw i
        have hM2 := hM1.push hV (by omega) (by omega) hxG hlt
        have hb2 := hb1.setCell (p := ⟨g, i, none⟩) hBg (.slice (some ⟨wr.heap.size, 0, none⟩) N N)
        have HM2 := Lib.hid hM2
        have HB2 := Lib.hid hb2
        have HXB := Lib.hid (show B ≤ wr.heap.size by omega)
        clear hM hM1 hV hb hb1 hM2 hb2 hf hbl hgl hxG hBg
        go_upto_region 8 with fail
        generalize (wr.alloc (.cells (madeCells #[.bool false] N) 4)).setCell ⟨g, i, none⟩ (.slice (some ⟨wr.heap.size, 0, none⟩) N N) = W1 at HM2 HB2 ⊢
        generalize wr.heap.size = x at HM2 HXB ⊢
        have hM2 := HM2.out.on (w' := W1.drew) (Below.refl _ _).drew
        obtain ⟨x', hx', hxg, k1, hv⟩ := hM2.row (i := i) (by omega) (by omega)
        rw [put1_same] at hx'
        subst hx'
        have k1 : W1.cell? ⟨g, i, none⟩ = some (.slice (some ⟨x, 0, none⟩) N N) := k1
        obtain ⟨ad, R, cR, rfl, had, c1, hcR, hrow⟩ := (HRM.out.below (HBB.out ▸ HB2.out)).at_ hlt
        have hszd : w.heap.size ≤ W1.drew.heap.size := HB2.out.size
        obtain ⟨Nc, w5, hcp, hv5, hg5⟩ := copy_bools hv (m := m0 i) (c := cR) ((hrow.below (Below.refl _ _).drew).more hszd) (Nat.le_refl _)
        have HMT := Lib.hid (hM2.turn (i := i) (by omega) (put1_same _ _ _) hg5 hv5)
        have HB5 := Lib.hid (HB2.out.drew.grown hg5 (by have := HB2.out.size; have := HBB.out; omega) (fun k hk => by injection hk with hk; have := HXB.out; omega))
        generalize l0 i = li at c1 hcR hcp
        clear hM2 hv hv5 hg5 d0 d1 hrow hxg had hszd
        go_still_tail 8, (by kernel_rfl)
        change wpList _ _ _ _ _ W1.drew
        go_wp2_with fail
        go_roundw
        case rel => exact ⟨i + 1, _, _, by omega, by go_num, HMT.out, HB5.out⟩
        case measure => simp [intOf]; omega
      · have hge : N ≤ i := by omega
        obtain rfl : N = i := by omega
        have hsz : B ≤ wr.heap.size := by have := hb.size; have := HBB.out; omega
        have HCL := Lib.hid (closure_any (some ⟨g, 0, none⟩) N N m wr hM.rdm (by omega))
        have HM := Lib.hid hM
        have HB := Lib.hid hb
        clear hM hb
        go_wp2_with fail
        refine HCL.out.mono ?_
        rintro e w5 ⟨g5, G5, rfl, hM5, hb5⟩
        have HCL2 := Lib.hid (closure_any (some ⟨g5, 0, none⟩) N N (War m N) w5 hM5.rdm (by omega))
        have HM5 := Lib.hid hM5
        have HB5 := Lib.hid hb5
        clear hM5 hb5 HCL
        go_wp2_with fail
        refine HCL2.out.mono ?_
        rintro e w6 ⟨g6, G6, rfl, hM6, hb6⟩
        have hM56 := HM5.out.on hb6
        have hmt : matB N N (fun _ => N) (fun _ => N) (War m N) (War (War m N) N) = true := matB_iff.2 ⟨rfl, fun i hi => ⟨rfl, fun j hj => (war_stays (war_shut m N) i j hi hj).symm⟩⟩
        have HMX := Lib.hid (matrix_any (some ⟨g5, 0, none⟩) (some ⟨g6, 0, none⟩) N N N N (fun _ => N) (fun _ => N) (War m N) (War (War m N) N) w6 hM56.rdm hM6.rdm (by omega) (fun _ _ => by omega))
        rw [hmt] at HMX
        have hb56 := HB5.out.trans (hb6.mono HB5.out.size)
        have HB6 := Lib.hid (HB.out.trans (hb56.mono hsz))
        have HMs := Lib.hid (HM.out.on hb56)
        have HMx := Lib.hid hM56
        clear hM6 hb6 hM56 hmt HCL2 HM HM5 hb56
        go_wp2_with fail
        refine HMX.out.mono ?_
        rintro e w7 ⟨rfl, q7, rfl⟩
        have HKN := Lib.hid fun w' => known7_any w'
        have HMs7 := Lib.hid (HMs.out.drewN q7)
        have HMx7 := Lib.hid (HMx.out.drewN q7)
        have HB7 := Lib.hid (Below.drewN HB6.out q7)
        clear HMX HMs HMx HB6
        go_wp2_with fail
        generalize w6.drewN q7 = w8 at HMs7 HMx7 HB7 ⊢
        go_loopw [7, 8, 55] (fun _ _ s wr => ∃ i : Nat, i ≤ N ∧ s = .int .i64 i ∧ wr = w8) (fun _ _ s _ => N - (intOf s).toNat)
        case atStart => exact ⟨0, by omega, rfl, rfl⟩
        case round =>
          obtain ⟨i, hi, rfl, rfl⟩ := hrel
          by_cases hlt : i < N
          · go_wp2_with fail
            go_loopw [8, 60] (fun _ s wx => ∃ j : Nat, j ≤ N ∧ s = .int .i64 j ∧ wx = wr) (fun _ s _ => N - (intOf s).toNat)
            case atStart => exact ⟨0, by omega, rfl, rfl⟩
            case round =>
              obtain ⟨j, hj, rfl, rfl⟩ := hrel
              by_cases hjn : j < N
              · obtain ⟨xs, _, _, p0, vs⟩ := HMs7.out.row hlt (Nat.le_refl _)
                obtain ⟨xx, _, _, p1, vx⟩ := HMx7.out.row hlt (Nat.le_refl _)
                have r0 := vs.cell j hjn
                have r1 := vx.cell j hjn
                have hwf := war_from m N i j
                obtain ⟨b0, hb0⟩ : ∃ b, b = m i j := ⟨_, rfl⟩
                obtain ⟨b1, hb1⟩ : ∃ b, b = War m N i j := ⟨_, rfl⟩
                rw [← hb0] at r0 hwf
                rw [← hb1] at r1 hwf
                clear vs vx hb0 hb1
                cases b0 with
                | false =>
                  clear hwf
                  go_wp2_with fail
                  go_roundw
                  case rel => exact ⟨j + 1, by omega, by go_num, by trivial⟩
                  case measure => simp [intOf]; omega
                | true =>
                  have hb1 := hwf rfl
                  subst hb1
                  clear hwf
                  go_wp2_with fail
                  go_roundw
                  case rel => exact ⟨j + 1, by omega, by go_num, by trivial⟩
                  case measure => simp [intOf]; omega
              · have hge2 : N ≤ j := by omega
                go_wp2_with fail
                go_roundw
                case rel => exact ⟨i + 1, by omega, by go_num, by trivial⟩
                case measure => simp [intOf]; omega
          · have hge2 : N ≤ i := by omega
            have HBF := Lib.hid HB7.out
            go_wp2_with fail
            refine (HKN.out _).mono ?_
            rintro e w9 ⟨rfl, hb9⟩
            go_wp2_with fail
            go_ret
            have h1 := HBF.out
            rw [HBB.out] at h1
            exact Ans.mk rfl (h1.trans (hb9.mono h1.size))
  · have h8i : ¬ (8 : Int) < (n0 : Int) := by omega
    obtain rfl : N = n0 := by have := HNE.out; omega
    go_upto_region 3 with fail
    clear h8 h8i
    go_wp2_with fail
    generalize w.alloc (.cells (madeCells #[.slice none 0 0] N) 40) = W0 at hb0 hM0 ⊢
    obtain ⟨g, hg⟩ : ∃ g, g = w.heap.size := ⟨_, rfl⟩
    rw [← hg] at hM0 ⊢
    clear hg hmk
    go_loopw [4, 19] (fun _ s wr => ∃ (i : Nat) (G : Nat → Nat) (m : Nat → Nat → Bool), i ≤ N ∧ s = .int .i64 i ∧ Mat wr B g N i G m ∧ Below B w wr) (fun _ s _ => N - (intOf s).toNat)
    case atStart => exact ⟨0, _, _, by omega, rfl, hM0, hb0⟩
    case round =>
      obtain ⟨i, G, m, hi, rfl, hM, hb⟩ := hrel
      clear hM0 hb0
      by_cases hlt : i < N
      · have hbl := bl1 wr (.cells (madeCells #[.bool false] N) 4)
        have hM1 := hM.on hbl
        have hV : Vec (wr.alloc (.cells (madeCells #[.bool false] N) 4)) wr.heap.size N fun _ => .bool false := Vec.lit wr _ _ N _ fun j hj => made_get _ N j hj
        have hgl : g < wr.heap.size := by
          obtain ⟨f, h1, _⟩ := hM.outer
          exact h1.lt
        have hBg := hM.low
        have hb1 := hb.trans (hbl.mono (by omega))
        have hxG : ∀ j, j < i → G j ≠ wr.heap.size := fun j hj => by
          have := (hM.rows j hj).lt
          omega
        obtain ⟨f, hf, _⟩ := hM1.outer
        have d0 := hf.cell i hlt
        have d1 := hf.thaw i
        have hM2 := hM1.push hV (by omega) (by omega) hxG hlt
        have hb2 := hb1.setCell (p := ⟨g, i, none⟩) hBg (.slice (some ⟨wr.heap.size, 0, none⟩) N N)
        have HM2 := Lib.hid hM2
        have HB2 := Lib.hid hb2
        have HXB := Lib.hid (show B ≤ wr.heap.size by omega)
        clear hM hM1 hV hb hb1 hM2 hb2 hf hbl hgl hxG hBg
        go_upto_region 8 with fail
        generalize (wr.alloc (.cells (madeCells #[.bool false] N) 4)).setCell ⟨g, i, none⟩ (.slice (some ⟨wr.heap.size, 0, none⟩) N N) = W1 at HM2 HB2 ⊢
        generalize wr.heap.size = x at HM2 HXB ⊢
        have hM2 := HM2.out.on (w' := W1.drew) (Below.refl _ _).drew
        obtain ⟨x', hx', hxg, k1, hv⟩ := hM2.row (i := i) (by omega) (by omega)
        rw [put1_same] at hx'
        subst hx'
        have k1 : W1.cell? ⟨g, i, none⟩ = some (.slice (some ⟨x, 0, none⟩) N N) := k1
        obtain ⟨ad, R, cR, rfl, had, c1, hcR, hrow⟩ := (HRM.out.below (HBB.out ▸ HB2.out)).at_ hlt
        have hszd : w.heap.size ≤ W1.drew.heap.size := HB2.out.size
        obtain ⟨Nc, w5, hcp, hv5, hg5⟩ := copy_bools hv (m := m0 i) (c := cR) ((hrow.below (Below.refl _ _).drew).more hszd) (Nat.le_refl _)
        have HMT := Lib.hid (hM2.turn (i := i) (by omega) (put1_same _ _ _) hg5 hv5)
        have HB5 := Lib.hid (HB2.out.drew.grown hg5 (by have := HB2.out.size; have := HBB.out; omega) (fun k hk => by injection hk with hk; have := HXB.out; omega))
        generalize l0 i = li at c1 hcR hcp
        clear hM2 hv hv5 hg5 d0 d1 hrow hxg had hszd
        go_still_tail 8, (by kernel_rfl)
        change wpList _ _ _ _ _ W1.drew
        go_wp2_with fail
        go_roundw
        case rel => exact ⟨i + 1, _, _, by omega, by go_num, HMT.out, HB5.out⟩
        case measure => simp [intOf]; omega
      · have hge : N ≤ i := by omega
        obtain rfl : N = i := by omega
        have hsz : B ≤ wr.heap.size := by have := hb.size; have := HBB.out; omega
        have HCL := Lib.hid (closure_any (some ⟨g, 0, none⟩) N N m wr hM.rdm (by omega))
        have HM := Lib.hid hM
        have HB := Lib.hid hb
        clear hM hb
        go_wp2_with fail
        refine HCL.out.mono ?_
        rintro e w5 ⟨g5, G5, rfl, hM5, hb5⟩
        have HCL2 := Lib.hid (closure_any (some ⟨g5, 0, none⟩) N N (War m N) w5 hM5.rdm (by omega))
        have HM5 := Lib.hid hM5
        have HB5 := Lib.hid hb5
        clear hM5 hb5 HCL
        go_wp2_with fail
        refine HCL2.out.mono ?_
        rintro e w6 ⟨g6, G6, rfl, hM6, hb6⟩
        have hM56 := HM5.out.on hb6
        have hmt : matB N N (fun _ => N) (fun _ => N) (War m N) (War (War m N) N) = true := matB_iff.2 ⟨rfl, fun i hi => ⟨rfl, fun j hj => (war_stays (war_shut m N) i j hi hj).symm⟩⟩
        have HMX := Lib.hid (matrix_any (some ⟨g5, 0, none⟩) (some ⟨g6, 0, none⟩) N N N N (fun _ => N) (fun _ => N) (War m N) (War (War m N) N) w6 hM56.rdm hM6.rdm (by omega) (fun _ _ => by omega))
        rw [hmt] at HMX
        have hb56 := HB5.out.trans (hb6.mono HB5.out.size)
        have HB6 := Lib.hid (HB.out.trans (hb56.mono hsz))
        have HMs := Lib.hid (HM.out.on hb56)
        have HMx := Lib.hid hM56
        clear hM6 hb6 hM56 hmt HCL2 HM HM5 hb56
        go_wp2_with fail
        refine HMX.out.mono ?_
        rintro e w7 ⟨rfl, q7, rfl⟩
        have HKN := Lib.hid fun w' => known7_any w'
        have HMs7 := Lib.hid (HMs.out.drewN q7)
        have HMx7 := Lib.hid (HMx.out.drewN q7)
        have HB7 := Lib.hid (Below.drewN HB6.out q7)
        clear HMX HMs HMx HB6
        go_wp2_with fail
        generalize w6.drewN q7 = w8 at HMs7 HMx7 HB7 ⊢
        go_loopw [7, 8, 55] (fun _ _ s wr => ∃ i : Nat, i ≤ N ∧ s = .int .i64 i ∧ wr = w8) (fun _ _ s _ => N - (intOf s).toNat)
        case atStart => exact ⟨0, by omega, rfl, rfl⟩
        case round =>
          obtain ⟨i, hi, rfl, rfl⟩ := hrel
          by_cases hlt : i < N
          · go_wp2_with fail
            go_loopw [8, 60] (fun _ s wx => ∃ j : Nat, j ≤ N ∧ s = .int .i64 j ∧ wx = wr) (fun _ s _ => N - (intOf s).toNat)
            case atStart => exact ⟨0, by omega, rfl, rfl⟩
            case round =>
              obtain ⟨j, hj, rfl, rfl⟩ := hrel
              by_cases hjn : j < N
              · obtain ⟨xs, _, _, p0, vs⟩ := HMs7.out.row hlt (Nat.le_refl _)
                obtain ⟨xx, _, _, p1, vx⟩ := HMx7.out.row hlt (Nat.le_refl _)
                have r0 := vs.cell j hjn
                have r1 := vx.cell j hjn
                have hwf := war_from m N i j
                obtain ⟨b0, hb0⟩ : ∃ b, b = m i j := ⟨_, rfl⟩
                obtain ⟨b1, hb1⟩ : ∃ b, b = War m N i j := ⟨_, rfl⟩
                rw [← hb0] at r0 hwf
                rw [← hb1] at r1 hwf
                clear vs vx hb0 hb1
                cases b0 with
                | false =>
                  clear hwf
                  go_wp2_with fail
                  go_roundw
                  case rel => exact ⟨j + 1, by omega, by go_num, by trivial⟩
                  case measure => simp [intOf]; omega
                | true =>
                  have hb1 := hwf rfl
                  subst hb1
                  clear hwf
                  go_wp2_with fail
                  go_roundw
                  case rel => exact ⟨j + 1, by omega, by go_num, by trivial⟩
                  case measure => simp [intOf]; omega
              · have hge2 : N ≤ j := by omega
                go_wp2_with fail
                go_roundw
                case rel => exact ⟨i + 1, by omega, by go_num, by trivial⟩
                case measure => simp [intOf]; omega
          · have hge2 : N ≤ i := by omega
            have HBF := Lib.hid HB7.out
            go_wp2_with fail
            refine (HKN.out _).mono ?_
            rintro e w9 ⟨rfl, hb9⟩
            go_wp2_with fail
            go_ret
            have h1 := HBF.out
            rw [HBB.out] at h1
            exact Ans.mk rfl (h1.trans (hb9.mono h1.size))
set_option maxRecDepth 100000 in
theorem lifted (os : Os) (started : os.Started) (H : Type) (enc : TypeId × Value → H) :
    ReturnsInHanded {} Try.checked os 7 .any (Rows.graphClosedSpec.pre6 enc Try.prog Try.f7 Rows.graphClosedRow.domain false) (Rows.graphClosedSpec.post enc Try.prog Try.f7 false true false false) := by
  refine returnsInHanded_of_change_sized (C := Try.checked) own started (by kernel_rfl) Try.func7
    (ChangeSpec.witness6 (enc := enc) (C := Try.checked) false ⟨#[], #[.slice none 0 0], []⟩ 8 (by kernel_rfl) (by kernel_rfl) (by kernel_rfl) (by kernel_rfl)) ?_
  intro W base args ds gs before hval0 hW hcnd hsz0 _
  have hval : ∀ (j : Nat) t v, Try.f7.params[j]? = some t → args[j]? = some v → Value.okWide Try.prog W .any base t v := hval0
  have hW' := hW
  obtain ⟨p, q, hA0, hV, rfl, hfz, hnd⟩ := hW
  have hA : DataW.TrodAll enc Try.prog W 0 (fun _ => true) true Try.f7.params.toList args.toList ds p := hA0
  have hsz : (DataW.weightsEach Try.prog (Try.f7.params.toList ++ Rows.graphClosedSpec.plain.varTypes Try.prog) (ds ++ gs)).all (· ≤ reachBytes) = true := hsz0
  rw [Try.params7] at hA hval hsz
  obtain ⟨v0, vs0, d0, ds0, p0, q0, hargs, rfl, rfl, h0, r0⟩ := trodAll_cons hA
  obtain ⟨rfl, rfl, rfl⟩ := trodAll_nil r0
  obtain rfl : args = #[v0] := by cases args; simp_all
  obtain ⟨rfl, rfl⟩ := trodVars_none hV
  obtain ⟨A0, n0, k0, rfl⟩ := okWide_slice Try.underlying38 (hval 0 38 v0 rfl rfl)
  have t0 := h0
  have lt0 : ∀ x ∈ p0, x.block < W.heap.size := by obtain ⟨m, hm⟩ := t0; exact DataW.trod_lt m _ _ _ hm
  obtain ⟨l0, m0, u0, c0, b0, z0⟩ := bools2_view h0
  clear hA0 hval0
  refine (walk A0 n0 k0 l0 m0 W u0 c0 b0 z0).mono fun e W' ⟨he, bel⟩ => ?_
  subst he
  exact ⟨_, rfl, _, _, _, [], _, [], hW', trodAll_mk1 (shut_bool Try.underlying4 _), (trodAll_cons_mk (Below.trod laidOut (by kernel_rfl) (of_decide_eq_true (by kernel_rfl)) t0 bel lt0) trodAll_mk0), rfl, bel.frame _, fun h => by cases h⟩

theorem proved : Rows.GraphClosedSaid :=
  OpenClaim.holds_of_wide 7 Try.f7 rfl rfl rfl rfl rfl rfl rfl ⟨rfl, rfl, rfl, rfl, rfl⟩ rfl rfl rfl rfl rfl (by kernel_rfl) Try.func7 (by kernel_rfl)
    (of_decide_eq_true (by kernel_rfl)) (by unfold Func.isWrapper; first | (rw [if_pos (by decide +kernel)]; kernel_rfl) | (rw [if_neg (by decide +kernel)]; exact ⟨rfl, rfl⟩))
    (fun os started H enc _ => lifted os started H enc)
end Go.Proofs.Ytknlhhbkahollaa.graphClosed
