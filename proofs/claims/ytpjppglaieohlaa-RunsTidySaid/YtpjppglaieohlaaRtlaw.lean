/- RunsTidy: for any tape of numbers and tick: a row of runs that is made of the tape, tidied, stays when it is tidied again, has the same ticks, of each and of all, and no two side by side of one. -/
import Derived.Test.YtpjppglaieohlaaFrameN
import Derived.Test.YtpjppglaieohlaaRknown
namespace Go.Proofs.Ytpjppglaieohlaa.runsTidy
open Go.ChangeShapes Go.WideShapes Go.ChangeAt Go.RowKit Tab
set_option linter.unusedSimpArgs false
set_option linter.unusedVariables false

set_option maxRecDepth 100000 in
set_option maxHeartbeats 4000000 in
theorem walk (A0 : Option Addr) (n0 k0 : Nat) (f0 : Nat → Int) (a1 : Int) (w : World) (r0 : RdC w w.heap.size A0 n0 fun j => .int .i64 (f0 j)) (c0 : n0 ≤ k0) (b0 : k0 ≤ 140737488351232) (w0 : ∀ j, j < n0 → (Lit.int .i64 (f0 j)).wf = true) (w1 : (Lit.int .i64 a1).wf = true) :
    Calls Try.prog 3 #[.slice A0 n0 k0, .int .i64 a1] w (Ans (.bool true) w) := by
  have R0 := Lib.hid r0
  obtain ⟨M, hM, hM2⟩ := and_mask a1 127 (by omega)
  have hM : bits .and .i64 a1 127 = (M : Int) := hM
  have HMASK := Lib.hid hM
  clear r0 w0 w1 hM
  go_enter Try.func3, Try.ntmps3
  go_wp2_with fail
  refine (row_box A0 n0 k0 f0 w 3 40 3 40 rfl rfl (by omega) (by omega) (by omega) (by omega) R0.out (by omega)).mono ?_
  rintro e w1 ⟨L, A1, n1, c1, rfl, hL, hr1, hc1, h1, h2, hb1⟩
  have htk : ticks L ≤ 160 := by
    have := fair_ticks hL
    rw [hr1.len] at this
    omega
  have hlT := tidy_le L
  rw [hr1.len] at hlT
  have hT := tidy_any A1 n1 c1 L w1 hr1 hc1 (by omega) (by omega)
  have hAp := tidy_apart L
  have hTT := tidy_tidy L
  have hTtk := ticks_tidy L
  have hTof : ∀ p, tkOf p (tidy L) = tkOf p L := fun p => tkOf_tidy p L
  have hTwho : ∀ t, whoAt (tidy L) t = whoAt L t := fun t => whoAt_tidy L t
  unfold MadeR at hT
  generalize tidy L = T at hlT hT hAp hTT hTtk hTof hTwho
  have hsw := swi_le T
  have HT := Lib.hid hT
  have HAP := Lib.hid hAp
  have HTT := Lib.hid hTT
  have HTK := Lib.hid hTtk
  have HOF := Lib.hid hTof
  have HWHO := Lib.hid hTwho
  have HR1 := Lib.hid hr1
  clear hT hAp hTT hTtk hTof hTwho hr1 hL R0
  go_wp2_with fail
  refine HT.out.mono ?_
  rintro e w2 ⟨A2, c2, rfl, hr2, hc2, hb2, _⟩
  have k2 := hb1.trans (hb2.mono hb1.size)
  have HR2 := Lib.hid hr2
  have HRL := Lib.hid (HR1.out.on hb2)
  clear hr2 HR1 HT hb2 hb1
  generalize hm2 : T.length = m2 at hlT hc2 HR2 hsw ⊢
  have HM2 := Lib.hid hm2
  clear hm2
  go_wp2_with fail
  go_loopw [7, 17] (fun _ s wr => ∃ i : Nat, i ≤ m2 ∧ s = .int .i64 i ∧ Below w2.heap.size w2 wr) (fun _ s _ => m2 - (intOf s).toNat)
  case atStart => exact ⟨0, by omega, rfl, Below.refl _ _⟩
  case round =>
    obtain ⟨i, hi, rfl, hb⟩ := hrel
    by_cases hlt : i < m2
    · obtain ⟨ad, r, rfl, had, hr, c0, c0'⟩ := (HR2.out.on hb).at_ hlt
      clear c0'
      by_cases h0 : i = 0
      · have hd : decide (0 < i) = false := decide_eq_false (by omega)
        clear h0 hr c0
        go_wp2_with fail
        go_quiet (fail)
        go_wp2_with fail
        go_roundw
        case rel => exact ⟨i + 1, by omega, by go_num, ⟨hb.os, hb.tape, hb.output, hb.size, hb.block⟩⟩
        case measure => simp [intOf]; omega
      · obtain ⟨j, hj⟩ : ∃ j, i = j + 1 := ⟨i - 1, by omega⟩
        obtain ⟨ad', q, e, _, hq, d0, d0'⟩ := (HR2.out.on hb).at_ (i := j) (by omega)
        injection e with e
        subst e
        have hne : (r.p == q.p) = false := by
          refine beq_eq_false_iff_ne.2 fun e => HAP.out.at_ hq (by rw [← hj]; exact hr) e.symm
        have h0' : 0 < i := by omega
        have hji : (i : Int) - 1 = (j : Int) := by omega
        have hw : IntKind.i64.wrap ((i : Int) - 1) = (j : Int) := by rw [hji]; exact IntWalk.i64_in _ (by omega)
        have hjl : (j : Int) < (m2 : Int) := by omega
        have hil : (i : Int) < (m2 : Int) := by omega
        clear hr hq d0' h0 hj hji
        go_wp2_with fail
        go_quiet (fail)
        clear hw
        go_wp2_with fail
        go_roundw
        case rel => exact ⟨i + 1, by omega, by go_num, ⟨hb.os, hb.tape, hb.output, hb.size, hb.block⟩⟩
        case measure => simp [intOf]; omega
    · have hge : m2 ≤ i := by omega
      clear hi
      go_wp2_with fail
      go_loopw [8] (fun s wr => ∃ j : Nat, j ≤ 5 ∧ s = .int .i64 ((j : Int) - 1) ∧ Below w2.heap.size w2 wr) (fun s _ => (4 - intOf s).toNat)
      case atStart => exact ⟨0, by omega, by simp, hb⟩
      case round =>
        obtain ⟨j, hj, rfl, hb'⟩ := hrel
        by_cases hj4 : j < 5
        · have hjl : (j : Int) - 1 < 4 := by omega
          have hcT := ticks_any A2 m2 c2 T ((j : Int) - 1) wr (HR2.out.on hb') hc2 (by omega) (by rw [HTK.out]; omega)
          rw [HOF.out] at hcT
          have htl := tkOf_le ((j : Int) - 1) L
          have hcL := fun w (h : RdR w w.heap.size A1 n1 L) => ticks_any A1 n1 c1 L ((j : Int) - 1) w h hc1 (by omega) (by omega)
          have HCT := Lib.hid hcT
          have HCL := Lib.hid hcL
          clear hcT hcL
          generalize tkOf ((j : Int) - 1) L = z at HCT HCL htl
          go_wp2_with fail
          refine HCT.out.mono ?_
          rintro e w5 ⟨rfl, hb5⟩
          have k5 := hb'.trans (hb5.mono hb'.size)
          go_wp2_with fail
          refine (HCL.out w5 (HRL.out.on k5)).mono ?_
          rintro e w6 ⟨rfl, hb6⟩
          have k6 := k5.trans (hb6.mono k5.size)
          go_wp2_with fail
          go_roundw
          case rel => exact ⟨j + 1, by omega, by go_num, k6⟩
          case measure => simp [intOf]; omega
        · have hjl : ¬ (j : Int) - 1 < 4 := by omega
          have hcT := tidy_any A2 m2 c2 T wr (HR2.out.on hb') hc2 (by omega) (by rw [HTK.out]; omega)
          rw [HTT.out] at hcT
          unfold MadeR at hcT
          rw [HM2.out] at hcT
          have HCT := Lib.hid hcT
          have HLT := Lib.hid fun w (h : RdR w w.heap.size A2 m2 T) => length_any A2 m2 c2 T w h hc2 (by omega) (by rw [HTK.out]; omega)
          have HLL := Lib.hid fun w (h : RdR w w.heap.size A1 n1 L) => length_any A1 n1 c1 L w h hc1 (by omega) (by omega)
          have HWT := Lib.hid fun w (h : RdR w w.heap.size A2 m2 T) => whose_any A2 m2 c2 T (M : Int) w h hc2 (by omega) (by rw [HTK.out]; omega) (by omega) (by omega)
          have HWL := Lib.hid fun w (h : RdR w w.heap.size A1 n1 L) => whose_any A1 n1 c1 L (M : Int) w h hc1 (by omega) (by omega) (by omega) (by omega)
          have HSW := Lib.hid fun w (h : RdR w w.heap.size A2 m2 T) => switches_any A2 m2 c2 T w h hc2 (by omega) (by rw [HTK.out]; omega)
          rw [HTK.out] at HLT
          simp only [HWHO.out] at HWT
          rw [HTT.out] at HSW
          clear hcT
          generalize ticks L = z1 at HLT HLL
          generalize whoAt L (M : Int) = z2 at HWT HWL
          generalize swi T = z3 at HSW hsw
          have hz3 : (z3 : Int) ≤ (m2 : Int) := by omega
          go_wp2_with fail
          refine HCT.out.mono ?_
          rintro e w5 ⟨A5, c5, rfl, hr5, hc5, hb5, _⟩
          have k5 := hb'.trans (hb5.mono hb'.size)
          go_wp2_with fail
          refine (rsame_self A5 A2 m2 c5 c2 T w5 hr5 (HR2.out.on k5) (by omega)).mono ?_
          rintro e w6 ⟨rfl, hb6⟩
          have k6 := k5.trans (hb6.mono k5.size)
          clear hr5
          go_wp2_with fail
          refine (HLT.out w6 (HR2.out.on k6)).mono ?_
          rintro e w7 ⟨rfl, hb7⟩
          have k7 := k6.trans (hb7.mono k6.size)
          go_wp2_with fail
          refine (HLL.out w7 (HRL.out.on k7)).mono ?_
          rintro e w8 ⟨rfl, hb8⟩
          have k8 := k7.trans (hb8.mono k7.size)
          have hM : bits .and .i64 a1 127 = (M : Int) := HMASK.out
          go_wp2_with fail
          refine (HWT.out w8 (HR2.out.on k8)).mono ?_
          rintro e w9 ⟨rfl, hb9⟩
          have k9 := k8.trans (hb9.mono k8.size)
          go_wp2_with fail
          refine (HWL.out w9 (HRL.out.on k9)).mono ?_
          rintro e w10 ⟨rfl, hb10⟩
          have k10 := k9.trans (hb10.mono k9.size)
          clear hM
          go_wp2_with fail
          refine (HSW.out w10 (HR2.out.on k10)).mono ?_
          rintro e w11 ⟨rfl, hb11⟩
          have k11 := k10.trans (hb11.mono k10.size)
          go_wp2_with fail
          refine (known_any w11).mono ?_
          rintro e w12 ⟨rfl, hb12⟩
          have k12 := k11.trans (hb12.mono k11.size)
          go_wp2_with fail
          go_ret
          exact Ans.mk rfl (k2.trans (k12.mono k2.size))

set_option maxRecDepth 100000 in
theorem lifted (os : Os) (started : os.Started) (H : Type) (enc : TypeId × Value → H) :
    ReturnsInHanded {} Try.checked os 3 .any (Rows.runsTidySpec.pre6 enc Try.prog Try.f3 Rows.runsTidyRow.domain false) (Rows.runsTidySpec.post enc Try.prog Try.f3 false true false false) := by
  refine returnsInHanded_of_change_sized (C := Try.checked) own started (by kernel_rfl) Try.func3
    (ChangeSpec.witness6 (enc := enc) (C := Try.checked) false ⟨#[], #[.slice none 0 0, .int .i64 0], []⟩ 8 (by kernel_rfl) (by kernel_rfl) (by kernel_rfl) (by kernel_rfl)) ?_
  intro W base args ds gs before hval0 hW hcnd hsz0 _
  have hval : ∀ (j : Nat) t v, Try.f3.params[j]? = some t → args[j]? = some v → Value.okWide Try.prog W .any base t v := hval0
  have hW' := hW
  obtain ⟨p, q, hA0, hV, rfl, hfz, hnd⟩ := hW
  have hA : DataW.TrodAll enc Try.prog W 0 (fun _ => true) true Try.f3.params.toList args.toList ds p := hA0
  have hsz : (DataW.weightsEach Try.prog (Try.f3.params.toList ++ Rows.runsTidySpec.plain.varTypes Try.prog) (ds ++ gs)).all (· ≤ reachBytes) = true := hsz0
  rw [Try.params3] at hA hval hsz
  obtain ⟨v0, vs0, d0, ds0, p0, q0, hargs, rfl, rfl, h0, r0⟩ := trodAll_cons hA
  obtain ⟨v1, vs1, d1, ds1, p1, q1, rfl, rfl, rfl, h1, r1⟩ := trodAll_cons r0
  obtain ⟨rfl, rfl, rfl⟩ := trodAll_nil r1
  obtain rfl : args = #[v0, v1] := by cases args; simp_all
  obtain ⟨rfl, rfl⟩ := trodVars_none hV
  obtain ⟨A0, n0, k0, rfl⟩ := okWide_slice Try.underlying22 (hval 0 22 v0 rfl rfl)
  have t0 := h0
  have lt0 : ∀ x ∈ p0, x.block < W.heap.size := by obtain ⟨m, hm⟩ := t0; exact DataW.trod_lt m _ _ _ hm
  obtain ⟨f0, u0, c0, b0, w0⟩ := ints_sized h0 (fun elems spare e => sized_slice hsz (j := 0) (t := 22) (e := 3) rfl (by rw [← e]; rfl) Try.underlying22)
  obtain ⟨a1, rfl, rfl, rfl, w1⟩ := open_int Try.underlying2 (hval 1 2 v1 rfl rfl) h1
  clear hA0 hval0
  refine (walk A0 n0 k0 f0 a1 W u0 c0 b0 w0 w1).mono fun e W' ⟨he, bel⟩ => ?_
  subst he
  exact ⟨_, rfl, _, _, _, [], _, [], hW', trodAll_mk1 (shut_bool Try.underlying4 _), (trodAll_cons_mk (Below.trod laidOut (by kernel_rfl) (of_decide_eq_true (by kernel_rfl)) t0 bel lt0) (trodAll_cons_mk (shut_int Try.underlying2 w1) trodAll_mk0)), rfl, bel.frame _, fun h => by cases h⟩

theorem proved : Rows.RunsTidySaid :=
  OpenClaim.holds_of_wide 3 Try.f3 rfl rfl rfl rfl rfl rfl rfl ⟨rfl, rfl, rfl, rfl, rfl⟩ rfl rfl rfl rfl rfl (by kernel_rfl) Try.func3 (by kernel_rfl)
    (of_decide_eq_true (by kernel_rfl)) (by unfold Func.isWrapper; first | (rw [if_pos (by decide +kernel)]; kernel_rfl) | (rw [if_neg (by decide +kernel)]; exact ⟨rfl, rfl⟩))
    (fun os started H enc _ => lifted os started H enc)

end Go.Proofs.Ytpjppglaieohlaa.runsTidy
