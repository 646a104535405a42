/- What package bound answers. -/
import Derived.Test.YtgoeikihjffeoaaLow9
import Derived.OpenShut
namespace Go.Proofs.Ytgoeikihjffeoaa
open Go.RowKit Tab
set_option linter.unusedSimpArgs false
set_option linter.unusedVariables false

theorem lateL_ge (W : List Int) (p q : Int) : -1 ≤ lateL W p q := by
  unfold lateL
  split
  · omega
  · split <;> omega
set_option maxRecDepth 100000 in
set_option maxHeartbeats 1600000 in
theorem blt_any (A : Option Addr) (n c : Nat) (L : List Rn) (xf xt : Int) (xq : Bool) (xc xm xl : Int) (w : World) (h : RdR w w.heap.size A n L) (hc : n ≤ c) (hn : n ≤ 1048576) (ht : ticks L ≤ 1099511627776) :
    Calls Try.prog 57 #[.slice A n c, .agg #[.int .i64 xf, .int .i64 xt, .bool xq, .int .i64 xc, .int .u32 xm, .int .i64 xl]] w (Ans (.bool (decide (lateL (wordsL L) xf xt < 0) || decide (xl < lateL (wordsL L) xf xt))) w) := by
  have hbx := bl1 w (.cells #[.int .i64 xf, .int .i64 xt, .bool xq, .int .i64 xc, .int .u32 xm, .int .i64 xl] 40)
  have HLT := Lib.hid (blate_any A n c L xf xt _ (h.on hbx) hc hn ht)
  have hge := lateL_ge (wordsL L) xf xt
  have HB1 := Lib.hid hbx
  generalize lateL (wordsL L) xf xt = z at HLT hge ⊢
  clear hbx h
  go_enter Try.func57, Try.ntmps57
  go_wp2_with fail
  refine HLT.out.mono ?_
  rintro e w5 ⟨rfl, hb5⟩
  have e5 : w5.cell? ⟨w.heap.size, 5, none⟩ = some (.int .i64 xl) := (hb5.cell (p := ⟨w.heap.size, 5, none⟩) (by simp)).trans (World.cell?_alloc_mark _ _ _ _ _)
  have HB5 := Lib.hid (HB1.out.trans (hb5.mono HB1.out.size))
  generalize w.heap.size = gx at e5 ⊢
  clear hb5 HLT HB1
  by_cases t2 : z = -1
  · subst t2
    go_wp2_with fail
    go_ret
    exact Ans.mk rfl HB5.out
  · have u2 : (z == -1) = false := beq_eq_false_iff_ne.2 t2
    have u4 : decide (z < 0) = false := decide_eq_false (by omega)
    have HU4 := Lib.hid u4
    obtain ⟨bb, hbb⟩ : ∃ bb, bb = decide (xl < z) := ⟨_, rfl⟩
    have HBB := Lib.hid hbb
    clear hbb
    cases bb with
    | true =>
      have u3 : decide (xl < z) = true := HBB.out.symm
      go_wp2_with fail
      go_ret
      exact Ans.mk (by rw [HU4.out, Bool.false_or, ← HBB.out]; rfl) HB5.out
    | false =>
      have u3 : decide (xl < z) = false := HBB.out.symm
      go_wp2_with fail
      go_ret
      exact Ans.mk (by rw [HU4.out, Bool.false_or, ← HBB.out]; rfl) HB5.out
set_option maxRecDepth 100000 in
set_option maxHeartbeats 4000000 in
theorem bholds_any (A1 A2 A3 A4 : Option Addr) (n1 n2 n3 n4 c1 c2 c3 c4 : Nat) (P : List PtV) (C : List ChV) (L : List Rn) (w : World) (hP : RdB pcl w w.heap.size A1 n1 P) (hC : RdB cc w w.heap.size A2 n2 C) (hL : RdR w w.heap.size A4 n4 L)
    (q1 : n1 ≤ 1048576) (q2 : n2 ≤ 1048576) (q4 : n4 ≤ c4) (q5 : n4 ≤ 1048576) (ht : ticks L ≤ 1099511627776) (hz : ∀ x ∈ P, In64 x.per) :
    Calls Try.prog 40 #[.agg #[.slice A1 n1 c1, .slice A2 n2 c2, .slice A3 n3 c3], .slice A4 n4 c4] w (Ans (.int .i64 (holdsF (wordsL L) P C)) w) := by
  have hb0 := bl1 w (.cells #[.slice A1 n1 c1, .slice A2 n2 c2, .slice A3 n3 c3] 27)
  have hP0 := hP.on hb0
  have hC0 := hC.on hb0
  have hL0 := hL.on hb0
  have m0 : (w.alloc (.cells #[.slice A1 n1 c1, .slice A2 n2 c2, .slice A3 n3 c3] 27)).cell? ⟨w.heap.size, 0, none⟩ = some (.slice A1 n1 c1) := World.cell?_alloc_mark _ _ _ _ _
  have hgs : w.heap.size < (w.alloc (.cells #[.slice A1 n1 c1, .slice A2 n2 c2, .slice A3 n3 c3] 27)).heap.size := by simp
  have HZ := Lib.hid hz
  obtain ⟨R, hR⟩ : ∃ R, R = holdsF (wordsL L) P C := ⟨_, rfl⟩
  rw [← hR]
  obtain ⟨X, hX⟩ : ∃ X, X = wordsL L := ⟨_, rfl⟩
  rw [← hX] at hR
  have HR := Lib.hid hR
  have HX := Lib.hid hX
  have hPl := hP.len
  have hCl := hC.len
  have HPL := Lib.hid hPl
  have HCL := Lib.hid hCl
  clear hP hC hL hz hR hX hPl hCl
  go_enter Try.func40, Try.ntmps40
  go_wp2_with fail
  generalize w.alloc (.cells #[.slice A1 n1 c1, .slice A2 n2 c2, .slice A3 n3 c3] 27) = W at hb0 hP0 hC0 hL0 m0 hgs ⊢
  obtain ⟨g, hg⟩ : ∃ g, g = w.heap.size := ⟨_, rfl⟩
  rw [← hg] at m0 hgs ⊢
  have HG := Lib.hid hg
  have HM0 := Lib.hid m0
  clear hg m0
  go_loopw [6, 12] (fun _ s wr => ∃ i : Nat, i ≤ n2 ∧ s = .int .i64 i ∧ (C.take i).any (chLate X) = false ∧ Below W.heap.size W wr) (fun _ s _ => n2 - (intOf s).toNat)
  case atStart => exact ⟨0, by omega, rfl, rfl, Below.refl _ _⟩
  case round =>
    obtain ⟨i, hi, rfl, hany, hb⟩ := hrel
    have HANY := Lib.hid hany
    clear hany
    by_cases hlt : i < n2
    · obtain ⟨ad, x, rfl, had, hx, c0, ck⟩ := (hC0.on hb).at_ cc_len (by omega) hlt
      have d0 := c0 _ rfl
      have d1 := ck 1 _ (by omega) rfl
      have d2 := ck 2 _ (by omega) rfl
      have d3 := ck 3 _ (by omega) rfl
      have d4 := ck 4 _ (by omega) rfl
      have d5 := ck 5 _ (by omega) rfl
      have HMORE := Lib.hid (any_more (chLate X) hx)
      have HMEM := Lib.hid (any_mem (chLate X) hx)
      obtain ⟨xf, xt, xq, xc, xm, xl⟩ := x
      dsimp only at d0 d1 d2 d3 d4 d5
      have hbx := bl1 wr (.cells #[.int .i64 xf, .int .i64 xt, .bool xq, .int .i64 xc, .int .u32 xm, .int .i64 xl] 40)
      have hb1 := hb.trans (hbx.mono hb.size)
      have HLT := Lib.hid (blt_any A4 n4 c4 L xf xt xq xc xm xl _ (hL0.on hb1) q4 q5 ht)
      have HB1 := Lib.hid hb1
      clear c0 ck hx hbx hb1
      rw [← HX.out] at HLT
      have hcl : chLate X ⟨xf, xt, xq, xc, xm, xl⟩ = (decide (0 < xl) && (decide (lateL X xf xt < 0) || decide (xl < lateL X xf xt))) := rfl
      generalize (decide (lateL X xf xt < 0) || decide (xl < lateL X xf xt)) = z at hcl HLT
      have HCL2 := Lib.hid hcl
      clear hcl
      by_cases t1 : 0 < xl
      · have u1 : decide (0 < xl) = true := decide_eq_true t1
        go_wp2_with fail
        refine HLT.out.mono ?_
        rintro e w5 ⟨rfl, hb5⟩
        have HB5 := Lib.hid (HB1.out.trans (hb5.mono HB1.out.size))
        clear hb5 HLT HB1 d0 d1 d2 d3 d4 d5
        cases z with
        | true =>
          have hres : R = 19 := by
            rw [HR.out]
            exact holdsF_late (HMEM.out (by rw [HCL2.out, u1]; rfl))
          subst hres
          go_wp2_with fail
          go_ret
          exact Ans.mk rfl (hb0.trans (HB5.out.mono hb0.size))
        | false =>
          have HN : Hid ((C.take (i + 1)).any (chLate X) = false) := Lib.hid (by rw [HMORE.out, HANY.out, HCL2.out, u1]; rfl)
          go_wp2_with fail
          go_roundw
          case rel => exact ⟨i + 1, by omega, by go_num, HN.out, HB5.out⟩
          case measure => simp [intOf]; omega
      · have u1 : decide (0 < xl) = false := decide_eq_false t1
        have HN : Hid ((C.take (i + 1)).any (chLate X) = false) := Lib.hid (by rw [HMORE.out, HANY.out, HCL2.out, u1]; rfl)
        clear HLT
        go_wp2_with fail
        go_roundw
        case rel => exact ⟨i + 1, by omega, by go_num, HN.out, HB1.out⟩
        case measure => simp [intOf]; omega
    · have hge : n2 ≤ i := by omega
      have HALL : Hid (C.any (chLate X) = false) := Lib.hid (by
        have h := HANY.out
        rw [List.take_of_length_le (by rw [HCL.out]; exact hge)] at h
        exact h)
      clear HANY
      have m0 := (hb.cell (p := ⟨g, 0, none⟩) hgs).trans HM0.out
      go_wp2_with fail
      go_loopw [7, 8, 28] (fun _ _ s wx => ∃ j : Nat, j ≤ n1 ∧ s = .int .i64 j ∧ shortF X 0 (P.take j) = false ∧ Below W.heap.size W wx) (fun _ _ s _ => n1 - (intOf s).toNat)
      case atStart => exact ⟨0, by omega, rfl, rfl, hb⟩
      case round =>
        obtain ⟨j, hj, rfl, hsh, hb⟩ := hrel
        have HSH := Lib.hid hsh
        clear hsh
        by_cases hlt : j < n1
        · obtain ⟨ad, x, rfl, had, hx, c0, ck⟩ := (hP0.on hb).at_ pcl_len (by omega) hlt
          have d0 := c0 _ rfl
          have d1 := ck 1 _ (by omega) rfl
          have d2 := ck 2 _ (by omega) rfl
          have d3 := ck 3 _ (by omega) rfl
          have d4 := ck 4 _ (by omega) rfl
          have d5 := ck 5 _ (by omega) rfl
          have d6 := ck 6 _ (by omega) rfl
          have d7 := ck 7 _ (by omega) rfl
          have d8 := ck 8 _ (by omega) rfl
          have d9 := ck 9 _ (by omega) rfl
          have d10 := ck 10 _ (by omega) rfl
          have hzx := HZ.out x (List.mem_of_getElem? hx)
          have HSM := Lib.hid (short_more (W := X) hx)
          have HSE := Lib.hid (short_mem (W := X) hx)
          obtain ⟨nm, bu, pe, sc, st, pa, pn, pc, h0, h1, h2, h3, h4⟩ := x
          dsimp only at d0 d1 d2 d3 d4 d5 d6 d7 d8 d9 d10 hzx
          have hbx := bl1 wr (.cells #[.string nm, .int .i64 bu, .int .i64 pe, .bool sc, .bool st, .slice pa pn pc, .int .i64 h0, .int .i64 h1, .int .i64 h2, .int .i64 h3, .int .i64 h4] 44)
          have hb1 := hb.trans (hbx.mono hb.size)
          have f1 : (wr.alloc (.cells #[.string nm, .int .i64 bu, .int .i64 pe, .bool sc, .bool st, .slice pa pn pc, .int .i64 h0, .int .i64 h1, .int .i64 h2, .int .i64 h3, .int .i64 h4] 44)).cell? ⟨wr.heap.size, 1, none⟩ = some (.int .i64 bu) := World.cell?_alloc_mark _ _ _ _ _
          have f2 : (wr.alloc (.cells #[.string nm, .int .i64 bu, .int .i64 pe, .bool sc, .bool st, .slice pa pn pc, .int .i64 h0, .int .i64 h1, .int .i64 h2, .int .i64 h3, .int .i64 h4] 44)).cell? ⟨wr.heap.size, 2, none⟩ = some (.int .i64 pe) := World.cell?_alloc_mark _ _ _ _ _
          have hgx : wr.heap.size < (wr.alloc (.cells #[.string nm, .int .i64 bu, .int .i64 pe, .bool sc, .bool st, .slice pa pn pc, .int .i64 h0, .int .i64 h1, .int .i64 h2, .int .i64 h3, .int .i64 h4] 44)).heap.size := by simp
          clear c0 ck hx hbx
          go_wp2_with fail
          generalize wr.alloc (.cells #[.string nm, .int .i64 bu, .int .i64 pe, .bool sc, .bool st, .slice pa pn pc, .int .i64 h0, .int .i64 h1, .int .i64 h2, .int .i64 h3, .int .i64 h4] 44) = W2 at hb1 f1 f2 hgx ⊢
          generalize wr.heap.size = gx at f1 f2 hgx ⊢
          have HB1 := Lib.hid hb1
          clear d0 d1 d2 d3 d4 d5 d6 d7 d8 d9 d10 hb1 had
          by_cases hbu : 0 < bu
          · have hbd : decide (0 < bu) = true := decide_eq_true hbu
            have HBG : Hid (Calls Try.prog 58 #[.slice A4 n4 c4, .int .i64 (j : Int), .int .i64 pe] W2.drew fun e w5 => e = .returned (.int .i64 (budL (wordsL L) (j : Int) pe)) ∧ Below W2.heap.size W2 w5 ∧ w5.cell? ⟨gx, 1, none⟩ = some (.int .i64 bu) ∧ w5.cell? ⟨gx, 2, none⟩ = some (.int .i64 pe)) := Lib.hid (by
              refine (bbudget_any A4 n4 c4 L (j : Int) pe W2.drew ((hL0.on HB1.out).below (Below.refl _ _).drew) q4 q5 ht hzx).mono ?_
              rintro e w5 ⟨rfl, hb5⟩
              have hb6 : Below W2.heap.size W2 w5 := ⟨hb5.os, hb5.tape, hb5.output, hb5.size, hb5.block⟩
              exact ⟨rfl, hb6, (hb6.cell (p := ⟨gx, 1, none⟩) hgx).trans f1, (hb6.cell (p := ⟨gx, 2, none⟩) hgx).trans f2⟩)
            rw [← HX.out] at HBG
            have hps : ptShort X j ⟨nm, bu, pe, sc, st, pa, pn, pc, h0, h1, h2, h3, h4⟩ = (decide (0 < bu) && decide (budL X (j : Int) pe < bu)) := rfl
            generalize budL X (j : Int) pe = z at HBG hps
            rw [hbd, Bool.true_and] at hps
            have HPS := Lib.hid hps
            clear hps
            go_region_with (go_at_call 58; refine HBG.out.mono ?_; rintro e w5 ⟨rfl, hb5, g1, g2⟩)
            all_goals
              by_cases t2 : z < bu
              · have u2 : decide (z < bu) = true := decide_eq_true t2
                have hres : R = 20 := by
                  rw [HR.out]
                  exact holdsF_short HALL.out (HSE.out (by rw [HPS.out]; exact u2))
                subst hres
                go_wp2_with fail
                go_ret
                exact Ans.mk rfl (hb0.trans ((HB1.out.trans (hb5.mono HB1.out.size)).mono hb0.size))
              · have u2 : decide (z < bu) = false := decide_eq_false t2
                have HN : Hid (shortF X 0 (P.take (j + 1)) = false) := Lib.hid (by rw [HSM.out, HSH.out, HPS.out, u2]; rfl)
                go_wp2_with fail
                go_roundw
                case rel => exact ⟨j + 1, by omega, by go_num, HN.out, HB1.out.trans (hb5.mono HB1.out.size)⟩
                case measure => simp [intOf]; omega
          · have hbd : decide (0 < bu) = false := decide_eq_false hbu
            have hps : ptShort X j ⟨nm, bu, pe, sc, st, pa, pn, pc, h0, h1, h2, h3, h4⟩ = (decide (0 < bu) && decide (budL X (j : Int) pe < bu)) := rfl
            rw [hbd, Bool.false_and] at hps
            have HN : Hid (shortF X 0 (P.take (j + 1)) = false) := Lib.hid (by rw [HSM.out, HSH.out, hps]; rfl)
            clear hps
            go_quiet (fail)
            go_wp2_with fail
            go_roundw
            case rel => exact ⟨j + 1, by omega, by go_num, HN.out, Below.drewN HB1.out nq⟩
            case measure => simp [intOf]; omega
        · have hge : n1 ≤ j := by omega
          have hres : R = 0 := by
            rw [HR.out]
            refine holdsF_ok HALL.out ?_
            have h := HSH.out
            rw [List.take_of_length_le (by rw [HPL.out]; exact hge)] at h
            exact h
          subst hres
          go_wp2_with fail
          go_ret
          exact Ans.mk rfl (hb0.trans (hb.mono hb0.size))
theorem boundW : BoundW := ⟨fun A n c L p q w h hc hn ht => blate_any A n c L p q w h hc hn (by omega), fun A n c L p z w h hc hn ht hz => bbudget_any A n c L p z w h hc hn (by omega) hz, fun A n c L p w h hc hn ht => bgaps_any A n c L p w h hc hn (by omega),
  fun A1 A2 A3 A4 n1 n2 n3 n4 c1 c2 c3 c4 P C L w hP hC hL q1 q2 q4 q5 ht hz => bholds_any A1 A2 A3 A4 n1 n2 n3 n4 c1 c2 c3 c4 P C L w hP hC hL q1 q2 q4 q5 (by omega) hz⟩
theorem i64_inB {a : Int} (h : (Lit.int .i64 a).wf = true) : -9223372036854775808 ≤ a ∧ a ≤ 9223372036854775807 := by simpa using Go.bounds_i64 h
end Go.Proofs.Ytgoeikihjffeoaa
