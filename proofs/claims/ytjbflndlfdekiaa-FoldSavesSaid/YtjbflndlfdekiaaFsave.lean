/- FoldSaves: for any tape of numbers and any number: a tidy row of runs that is made of the tape, as often as the number says one behind the other, folds into a table of it that has no more nodes than the row laid out plainly. -/
import Derived.Test.YtjbflndlfdekiaaLow2
import Derived.Test.YtjbflndlfdekiaaTabp
namespace Go.Proofs.Ytjbflndlfdekiaa.foldSaves
open Go.ChangeShapes Go.WideShapes Go.ChangeAt Go.RowKit Tab
set_option linter.unusedSimpArgs false
set_option linter.unusedVariables false

set_option maxRecDepth 100000 in
set_option maxHeartbeats 4000000 in
theorem walk (A0 : Option Addr) (n0 k0 : Nat) (f0 : Nat → Int) (a1 : Int) (w : World) (r0 : RdC w w.heap.size A0 n0 fun j => .int .i64 (f0 j)) (c0 : n0 ≤ k0) (b0 : k0 ≤ 140737488351232) (w0 : ∀ j, j < n0 → (Lit.int .i64 (f0 j)).wf = true) (w1 : (Lit.int .i64 a1).wf = true) :
    Calls Try.prog 5 #[.slice A0 n0 k0, .int .i64 a1] w (Ans (.bool true) w) := by
  have R0 := Lib.hid r0
  obtain ⟨M, hM, hM2⟩ := and_mask a1 7 (by omega)
  have hM : bits .and .i64 a1 7 = (M : Int) := hM
  have HMASK := Lib.hid hM
  clear r0 w0 w1 hM
  go_enter Try.func5, Try.ntmps5
  go_wp2_with fail
  refine (row_box A0 n0 k0 f0 w 3 6 3 6 rfl rfl (by omega) (by omega) (by omega) (by omega) R0.out (by omega)).mono ?_
  rintro e w1 ⟨L, A1, n1, c1, rfl, hL, hr1, hc1, h1, h2, hb1⟩
  have htk := fair_ticks hL
  rw [hr1.len] at htk
  have hT := rtidy_any A1 n1 c1 L w1 hr1 hc1 (by omega) (by omega)
  have hle := tidy_le L
  rw [hr1.len] at hle
  have hap := tidy_apart L
  have htt := ticks_tidy L
  have hfair : ∀ r ∈ tidy L, 1 ≤ r.n ∧ -1 ≤ r.p ∧ r.p ≤ 5 := fun r hr => by
    obtain ⟨x, hx, e⟩ := tidy_part hr
    have h3 := hL x hx
    have h4 := hap.pos r hr
    unfold Fair at h3
    omega
  unfold MadeR at hT
  generalize tidy L = T at hT hle hap htt hfair
  have HT := Lib.hid hT
  have HF := Lib.hid hfair
  have HAP := Lib.hid hap
  have htt2 : ticks T ≤ 24 := by omega
  clear hT hfair hap htt hr1 hL R0 htk
  go_wp2_with fail
  refine HT.out.mono ?_
  rintro e w2 ⟨A2, c2, rfl, hr2, hc2, hb2, _⟩
  have k2 := hb1.trans (hb2.mono hb1.size)
  have HK2 := Lib.hid k2
  have HR2 := Lib.hid hr2
  clear hr2 HT hb1 hb2 k2
  generalize hm2 : T.length = m2 at hle hc2 HR2
  have HM2 := Lib.hid hm2
  clear hm2
  by_cases hlt : m2 < 2
  · have hlt' : (m2 : Int) < 2 := by omega
    have hd2 : decide ((m2 : Int) < 2) = true := decide_eq_true hlt'
    have hd3 : decide (m2 < 2) = true := decide_eq_true hlt
    go_wp2_with fail
    go_quiet (fail)
    go_wp2_with fail
    refine (known6_any _).mono ?_
    rintro e w3 ⟨rfl, hb3⟩
    go_wp2_with fail
    go_ret
    exact Ans.mk rfl ((Below.drewN HK2.out nq).trans (hb3.mono HK2.out.size))
  · have hd3 : decide (m2 < 2) = false := decide_eq_false hlt
    have hd2 : decide ((m2 : Int) < 2) = false := decide_eq_false (by omega)
    obtain ⟨ad, x, rfl, _, hx, c0, c0'⟩ := HR2.out.at_ (show 0 < m2 by omega)
    obtain ⟨ad2, y, e2, _, hy, d0, d0'⟩ := HR2.out.at_ (show m2 - 1 < m2 by omega)
    injection e2 with e2
    subst e2
    have e3 : ad.add (0 * 2) = ad := by unfold Addr.add; simp
    rw [e3] at c0
    obtain ⟨q, hq⟩ : ∃ q, q = m2 - 1 := ⟨_, rfl⟩
    rw [← hq] at d0
    have hsub : (m2 : Int) - 1 = (q : Int) := by omega
    have hqm : q < m2 := by omega
    have hqw : IntKind.i64.wrap (q : Int) = (q : Int) := IntWalk.i64_in _ (by omega)
    have h0m : 0 < m2 := by omega
    have HX := Lib.hid hx
    have HY := Lib.hid hy
    have HQ := Lib.hid hq
    clear hx hy hq e3 c0' d0'
    by_cases hpp : x.p = y.p
    · have hpb : (x.p == y.p) = true := beq_iff_eq.2 hpp
      go_wp2_with fail
      go_quiet (fail)
      go_wp2_with fail
      refine (known6_any _).mono ?_
      rintro e w3 ⟨rfl, hb3⟩
      go_wp2_with fail
      go_ret
      exact Ans.mk rfl ((Below.drewN HK2.out nq).trans (hb3.mono HK2.out.size))
    · have hpb : (x.p == y.p) = false := beq_eq_false_iff_ne.2 hpp
      go_wp2_with fail
      go_quiet (fail)
      have hK := Below.drewN HK2.out nq
      have hRW : RdR (w2.drewN nq) (w2.drewN nq).heap.size (some ad) m2 T := HR2.out.below (Below.drewN (Below.refl _ _) nq)
      generalize w2.drewN nq = W at hK hRW ⊢
      have HAG := Lib.hid (again_any none (some ad) none 0 m2 0 0 c2 0 (2 + M) [] T [] W ⟨rfl, RdV.nil⟩ hRW ⟨rfl, RdV.nil⟩ (by omega) (by omega) (by omega) (by omega))
      rw [show ((2 + M : Nat) : Int) = 2 + (M : Int) by omega] at HAG
      have hfT : Frm T m2 := ⟨by omega, by omega, by omega, HF.out⟩
      have HTT := Lib.hid fun w' (hb : Below W.heap.size W w') => tabl_any (some ad) m2 c2 T w' (hRW.on hb) hc2 hfT
      have HLT := Lib.hid hRW.len
      have hM : bits .and .i64 a1 7 = (M : Int) := HMASK.out
      clear HK2 HR2 hRW hfT c0 d0 hsub hqw
      go_wp2_with fail
      refine HAG.out.mono ?_
      rintro e w3 ⟨j, A3, m3, c3, rfl, hr3, hc3, hj, hj1, hm3, hb3⟩
      have e0 : [] ++ reps j T ++ [] = reps j T := by simp
      rw [e0] at hr3
      have hj1 := hj1 (by omega)
      have k3 := hK.trans (hb3.mono hK.size)
      have hl3 := hr3.len
      have hl3' : m2 ≤ m3 := by
        rw [← hl3, reps_length, HM2.out]
        exact Nat.le_mul_of_pos_left _ hj1
      have hApR : Apart (reps j T) := by
        refine apart_reps j HAP.out fun y' x' hy' hx' => ?_
        rw [List.getLast?_eq_getElem?, HM2.out, HY.out] at hy'
        rw [List.head?_eq_getElem?, HX.out] at hx'
        injection hy' with hy'
        injection hx' with hx'
        subst hy'
        subst hx'
        exact fun e => hpp e.symm
      have hTR := tidy_of_apart hApR
      have hmem : ∀ r ∈ reps j T, 1 ≤ r.n ∧ -1 ≤ r.p ∧ r.p ≤ 5 := fun r hr => HF.out r (reps_mem hr)
      have htR : ticks (reps j T) ≤ 24 * 95 := by
        have := ticks_bound (L := reps j T) (b := 24) fun r hr => by
          have := mem_ticks (reps_mem hr)
          omega
        rw [hl3] at this
        omega
      have hfR : Frm (reps j T) m3 := ⟨by omega, by omega, by omega, hmem⟩
      clear hApR hmem HAG e0
      generalize reps j T = R at hr3 hl3 hTR htR hfR
      have HTR := Lib.hid hTR
      have HTB := Lib.hid (tabl_any A3 m3 c3 R w3 hr3 hc3 hfR)
      have HPL := Lib.hid fun w' (hb : Below w3.heap.size w3 w') => plan_any A3 m3 c3 R w' (hr3.on hb) hc3 hfR
      have HR3 := Lib.hid fun w' (hb : Below w3.heap.size w3 w') => hr3.on hb
      have HL3 := Lib.hid hl3
      clear hr3 hTR hfR hl3 hM
      go_wp2_with fail
      refine HTB.out.mono ?_
      rintro e w4 ⟨A4, m4, c4, rfl, hr4, hb4⟩
      have HOF := Lib.hid (hr4.of (by omega) (by rw [HL3.out]; omega) HTR.out)
      have hp4 := hr4.pl
      have hc4 := hr4.cap
      have k4 := k3.trans (hb4.mono k3.size)
      clear hr4 HTB htR
      go_wp2_with fail
      refine HOF.out.mono ?_
      rintro e w5 ⟨A5, m5, c5, rfl, hr5, hc5, hb5⟩
      have j5 := hb4.trans (hb5.mono hb4.size)
      have k5 := k4.trans (hb5.mono k4.size)
      have HSM := Lib.hid (xself_any A5 A3 m5 m3 c5 c3 R w5 hr5 (HR3.out w5 j5) (by have := hr5.len; have := HL3.out; omega))
      clear hr5 HOF
      go_wp2_with fail
      refine HSM.out.mono ?_
      rintro e w6 ⟨rfl, hb6⟩
      have j6 := j5.trans (hb6.mono j5.size)
      have k6 := k5.trans (hb6.mono k5.size)
      go_wp2_with fail
      refine (HPL.out w6 j6).mono ?_
      rintro e w7 ⟨A7, m7, c7, rfl, hr7, hm7, hb7⟩
      have j7 := j6.trans (hb7.mono j6.size)
      have k7 := k6.trans (hb7.mono k6.size)
      have hle7 : (m4 : Int) ≤ (m7 : Int) := by omega
      clear hr7 HSM hp4 hm7
      go_wp2_with fail
      refine (HTT.out w7 (hb3.trans (j7.mono hb3.size))).mono ?_
      rintro e w8 ⟨A8, m8, c8, rfl, hr8, hb8⟩
      have k8 := k7.trans (hb8.mono k7.size)
      have hle8 : (m8 : Int) ≤ (m2 : Int) + 1 := by have := hr8.le; rw [HLT.out] at this; omega
      clear hr8
      go_wp2_with fail
      refine (known6_any w8).mono ?_
      rintro e w9 ⟨rfl, hb9⟩
      go_wp2_with fail
      go_ret
      exact Ans.mk rfl (k8.trans (hb9.mono k8.size))

set_option maxRecDepth 100000 in
theorem lifted (os : Os) (started : os.Started) (H : Type) (enc : TypeId × Value → H) :
    ReturnsInHanded {} Try.checked os 5 .any (Rows.foldSavesSpec.pre6 enc Try.prog Try.f5 Rows.foldSavesRow.domain false) (Rows.foldSavesSpec.post enc Try.prog Try.f5 false true false false) := by
  refine returnsInHanded_of_change_sized (C := Try.checked) own started (by kernel_rfl) Try.func5
    (ChangeSpec.witness6 (enc := enc) (C := Try.checked) false ⟨#[], #[.slice none 0 0, .int .i64 0], []⟩ 8 (by kernel_rfl) (by kernel_rfl) (by kernel_rfl) (by kernel_rfl)) ?_
  intro W base args ds gs before hval0 hW hcnd hsz0 _
  have hval : ∀ (j : Nat) t v, Try.f5.params[j]? = some t → args[j]? = some v → Value.okWide Try.prog W .any base t v := hval0
  have hW' := hW
  obtain ⟨p, q, hA0, hV, rfl, hfz, hnd⟩ := hW
  have hA : DataW.TrodAll enc Try.prog W 0 (fun _ => true) true Try.f5.params.toList args.toList ds p := hA0
  have hsz : (DataW.weightsEach Try.prog (Try.f5.params.toList ++ Rows.foldSavesSpec.plain.varTypes Try.prog) (ds ++ gs)).all (· ≤ reachBytes) = true := hsz0
  rw [Try.params5] at hA hval hsz
  obtain ⟨v0, vs0, d0, ds0, p0, q0, hargs, rfl, rfl, h0, r0⟩ := trodAll_cons hA
  obtain ⟨v1, vs1, d1, ds1, p1, q1, rfl, rfl, rfl, h1, r1⟩ := trodAll_cons r0
  obtain ⟨rfl, rfl, rfl⟩ := trodAll_nil r1
  obtain rfl : args = #[v0, v1] := by cases args; simp_all
  obtain ⟨rfl, rfl⟩ := trodVars_none hV
  obtain ⟨A0, n0, k0, rfl⟩ := okWide_slice Try.underlying22 (hval 0 22 v0 rfl rfl)
  have t0 := h0
  have lt0 : ∀ x ∈ p0, x.block < W.heap.size := by obtain ⟨m, hm⟩ := t0; exact DataW.trod_lt m _ _ _ hm
  obtain ⟨f0, u0, c0, b0, w0⟩ := ints_sized h0 (fun elems spare e => sized_slice hsz (j := 0) (t := 22) (e := 3) rfl (by rw [← e]; rfl) Try.underlying22)
  obtain ⟨a1, rfl, rfl, rfl, w1⟩ := open_int Try.underlying3 (hval 1 3 v1 rfl rfl) h1
  clear hA0 hval0
  refine (walk A0 n0 k0 f0 a1 W u0 c0 b0 w0 w1).mono fun e W' ⟨he, bel⟩ => ?_
  subst he
  exact ⟨_, rfl, _, _, _, [], _, [], hW', trodAll_mk1 (shut_bool Try.underlying4 _), (trodAll_cons_mk (Below.trod laidOut (by kernel_rfl) (of_decide_eq_true (by kernel_rfl)) t0 bel lt0) (trodAll_cons_mk (shut_int Try.underlying3 w1) trodAll_mk0)), rfl, bel.frame _, fun h => by cases h⟩

theorem proved : Rows.FoldSavesSaid :=
  OpenClaim.holds_of_wide 5 Try.f5 rfl rfl rfl rfl rfl rfl rfl ⟨rfl, rfl, rfl, rfl, rfl⟩ rfl rfl rfl rfl rfl (by kernel_rfl) Try.func5 (by kernel_rfl)
    (of_decide_eq_true (by kernel_rfl)) (by unfold Func.isWrapper; first | (rw [if_pos (by decide +kernel)]; kernel_rfl) | (rw [if_neg (by decide +kernel)]; exact ⟨rfl, rfl⟩))
    (fun os started H enc _ => lifted os started H enc)

end Go.Proofs.Ytjbflndlfdekiaa.foldSaves
