/- FoldBack: for any tape of numbers and any number: a tidy row of runs that is made of the tape folds into a table that may be, and lies plainly in one, each of which has the row as its runs; the folded one has no more nodes than the plain one, and that no more than runs and one. -/
import Derived.Test.YtjbflndlfdekiaaLow2
import Derived.Test.YtjbflndlfdekiaaTabp
namespace Go.Proofs.Ytjbflndlfdekiaa.foldBack
open Go.ChangeShapes Go.WideShapes Go.ChangeAt Go.RowKit Tab
set_option linter.unusedSimpArgs false
set_option linter.unusedVariables false

set_option maxRecDepth 100000 in
set_option maxHeartbeats 4000000 in
theorem walk (A0 : Option Addr) (n0 k0 : Nat) (f0 : Nat → Int) (a1 : Int) (w : World) (r0 : RdC w w.heap.size A0 n0 fun j => .int .i64 (f0 j)) (c0 : n0 ≤ k0) (b0 : k0 ≤ 140737488351232) (w0 : ∀ j, j < n0 → (Lit.int .i64 (f0 j)).wf = true) (w1 : (Lit.int .i64 a1).wf = true) :
    Calls Try.prog 3 #[.slice A0 n0 k0, .int .i64 a1] w (Ans (.bool true) w) := by
  have R0 := Lib.hid r0
  obtain ⟨M, hM, hM2⟩ := and_mask a1 7 (by omega)
  have hM : bits .and .i64 a1 7 = (M : Int) := hM
  have HMASK := Lib.hid hM
  have HTB := Lib.hid (tape_boxed A0 n0 k0 f0 w R0.out)
  clear r0 w0 w1 hM
  go_enter Try.func3, Try.ntmps3
  go_wp2_with fail
  refine (row_any w.heap.size w.heap.size A0 n0 k0 f0 (by omega) 3 6 (by omega) (by omega) (by omega) (by omega) 0 _ HTB.out).mono ?_
  rintro e w1 ⟨L1, A1, n1, c1, at1, rfl, hL1, ho1, h1, h2, T1, G1⟩
  have HL1 := Lib.hid hL1
  have HT1 := Lib.hid T1
  have hb1 := gb_boxed G1
  have HO1 := Lib.hid ho1
  clear hL1 T1 ho1 HTB
  go_wp2_with fail
  refine (row_any w.heap.size w.heap.size A0 n0 k0 f0 (by omega) 3 6 (by omega) (by omega) (by omega) (by omega) at1 w1 HT1.out).mono ?_
  rintro e w2 ⟨L2, A2, n2, c2, at2, rfl, hL2, ho2, h3, h4, T2, G2⟩
  have hrr1 : RdR w2 w2.heap.size A1 n1 L1 := OwnV.rdr (HO1.out.gb G2 (by simp))
  have hc1 := HO1.out.cap
  have hr2 : RdR w2 w2.heap.size A2 n2 L2 := ho2.rdr
  have hc2 := ho2.cap
  have hb2 := gb_boxed (gb_trans G1 G2)
  have HAG := Lib.hid (again_any A1 A2 A1 n1 n2 n1 c1 c2 c1 (1 + M) L1 L2 L1 w2 hrr1 hr2 hrr1 h2 (by omega) h2 (by omega))
  rw [show ((1 + M : Nat) : Int) = 1 + (M : Int) by omega] at HAG
  have hn1 := hrr1.len
  have HL2 := Lib.hid hL2
  have hM : bits .and .i64 a1 7 = (M : Int) := HMASK.out
  clear hrr1 hr2 ho2 T2 G2 G1 HO1 hL2 HT1 hb1
  go_wp2_with fail
  refine HAG.out.mono ?_
  rintro e w3 ⟨j, A3, m3, c3, rfl, hr3, hc3, hj, hj1, hm3, hb3⟩
  have k3 := hb2.trans (hb3.mono hb2.size)
  have hl3 := hr3.len
  have hfair : ∀ r ∈ L1 ++ reps j L2 ++ L1, Fair 3 r := fun r hr => by
    rcases List.mem_append.1 hr with hr | hr
    · rcases List.mem_append.1 hr with hr | hr
      · exact HL1.out r hr
      · exact HL2.out r (reps_mem hr)
    · exact HL1.out r hr
  have hl3' : 1 ≤ (L1 ++ reps j L2 ++ L1).length := by rw [List.length_append, List.length_append]; omega
  clear HAG hM
  generalize L1 ++ reps j L2 ++ L1 = L at hr3 hl3 hfair hl3'
  have htk := fair_ticks hfair
  rw [hl3] at htk hl3'
  have hTD := rtidy_any A3 m3 c3 L w3 hr3 hc3 (by omega) (by omega)
  have hle := tidy_le L
  rw [hl3] at hle
  have hap := tidy_apart L
  have htt := ticks_tidy L
  have hTT := tidy_tidy L
  have hfT : ∀ r ∈ tidy L, 1 ≤ r.n ∧ -1 ≤ r.p ∧ r.p ≤ 5 := fun r hr => by
    obtain ⟨x, hx, e⟩ := tidy_part hr
    have h3 := hfair x hx
    have h4 := hap.pos r hr
    unfold Fair at h3
    omega
  have hpos : 1 ≤ (tidy L).length := by
    rcases Nat.eq_zero_or_pos (tidy L).length with h0 | h0
    · have e := List.eq_nil_of_length_eq_zero h0
      rw [e] at htt
      have h5 : L.length ≤ ticks L := length_le_ticks fun r hr => (hfair r hr).1
      simp only [ticks] at htt
      omega
    · exact h0
  unfold MadeR at hTD
  have HTD := Lib.hid hTD
  clear hTD hap hr3 hfair
  generalize tidy L = R at HTD hle htt hTT hfT hpos
  have htR : ticks R ≤ 380 := by omega
  have HTT := Lib.hid hTT
  clear htt hTT htk
  go_wp2_with fail
  refine HTD.out.mono ?_
  rintro e w4 ⟨A4, c4, rfl, hr4, hc4, hb4, _⟩
  have k4 := k3.trans (hb4.mono k3.size)
  have hfR : Frm R R.length := ⟨hpos, by omega, by omega, hfT⟩
  have HRR := Lib.hid (rruns_any A4 R.length c4 R w4 hr4 hc4 hfR)
  have HTA := Lib.hid fun w' (hb : Below w4.heap.size w4 w') => tabl_any A4 R.length c4 R w' (hr4.on hb) hc4 hfR
  have HPL := Lib.hid fun w' (hb : Below w4.heap.size w4 w') => plan_any A4 R.length c4 R w' (hr4.on hb) hc4 hfR
  have HXS := Lib.hid fun (A : Option Addr) (m c : Nat) w' (hb : Below w4.heap.size w4 w') (h : RdR w' w'.heap.size A m R) => xself_any A A4 m R.length c c4 R w' h (hr4.on hb) (by have := h.len; omega)
  have HOF := Lib.hid fun (A : Option Addr) (m c : Nat) w' (h : TabR R w' A m c) => h.of (by omega) (by omega) HTT.out
  have HLE := Lib.hid fun (A : Option Addr) (m c : Nat) w' (h : TabR R w' A m c) => h.le
  have HPZ := Lib.hid fun (A : Option Addr) (m c : Nat) w' (h : TabR R w' A m c) => h.pl
  clear HTD hr4 hfR hfT
  generalize hq : R.length = q at hle hpos hc4 HRR HTA HPL HXS HLE
  clear hq
  go_wp2_with fail
  refine HRR.out.mono ?_
  rintro e w5 ⟨rfl, hb5⟩
  have k5 := k4.trans (hb5.mono k4.size)
  go_wp2_with fail
  refine (HTA.out w5 hb5).mono ?_
  rintro e w6 ⟨A6, m6, c6, rfl, hr6, hb6⟩
  have j6 := hb5.trans (hb6.mono hb5.size)
  have k6 := k5.trans (hb6.mono k5.size)
  have HR6 := Lib.hid hr6
  have hc6 := hr6.cap
  clear hr6 HRR
  go_wp2_with fail
  refine (HPL.out w6 j6).mono ?_
  rintro e w7 ⟨A7, m7, c7, rfl, hr7, hm7, hb7⟩
  have j7 := j6.trans (hb7.mono j6.size)
  have k7 := k6.trans (hb7.mono k6.size)
  have HR7 := Lib.hid hr7
  have hc7 := hr7.cap
  have hle7 := HLE.out A7 m7 c7 w7 hr7
  have hpl6 := HPZ.out A6 m6 c6 w6 HR6.out
  have HO6 := Lib.hid (HOF.out A6 m6 c6 w7 (HR6.out.on hb7))
  have HO7 := Lib.hid fun w' (hb : Below w7.heap.size w7 w') => HOF.out A7 m7 c7 w' (HR7.out.on hb)
  have hle67 : (m6 : Int) ≤ (m7 : Int) := by omega
  have hle7q : (m7 : Int) ≤ (q : Int) + 1 := by omega
  clear hr7 HR6 HR7 HOF HPL HTA HLE HPZ hm7 hle7 hpl6
  go_wp2_with fail
  refine HO6.out.mono ?_
  rintro e w8 ⟨A8, m8, c8, rfl, hr8, hc8, hb8⟩
  have j8 := j7.trans (hb8.mono j7.size)
  have k8 := k7.trans (hb8.mono k7.size)
  have HR8 := Lib.hid hr8
  clear hr8
  go_wp2_with fail
  refine (HO7.out w8 hb8).mono ?_
  rintro e w9 ⟨A9, m9, c9, rfl, hr9, hc9, hb9⟩
  have j9 := j8.trans (hb9.mono j8.size)
  have k9 := k8.trans (hb9.mono k8.size)
  have HR9 := Lib.hid hr9
  have HS8 := Lib.hid (HXS.out A8 m8 c8 w9 j9 (HR8.out.on hb9))
  clear hr9 HR8 HO6 HO7
  go_wp2_with fail
  refine HS8.out.mono ?_
  rintro e w10 ⟨rfl, hb10⟩
  have j10 := j9.trans (hb10.mono j9.size)
  have k10 := k9.trans (hb10.mono k9.size)
  have HS9 := Lib.hid (HXS.out A9 m9 c9 w10 j10 (HR9.out.on hb10))
  clear HR9 HS8 HXS
  go_wp2_with fail
  refine HS9.out.mono ?_
  rintro e w11 ⟨rfl, hb11⟩
  have k11 := k10.trans (hb11.mono k10.size)
  clear HS9
  go_wp2_with fail
  refine (known6_any w11).mono ?_
  rintro e w12 ⟨rfl, hb12⟩
  go_wp2_with fail
  go_ret
  exact Ans.mk rfl (k11.trans (hb12.mono k11.size))

set_option maxRecDepth 100000 in
theorem lifted (os : Os) (started : os.Started) (H : Type) (enc : TypeId × Value → H) :
    ReturnsInHanded {} Try.checked os 3 .any (Rows.foldBackSpec.pre6 enc Try.prog Try.f3 Rows.foldBackRow.domain false) (Rows.foldBackSpec.post enc Try.prog Try.f3 false true false false) := by
  refine returnsInHanded_of_change_sized (C := Try.checked) own started (by kernel_rfl) Try.func3
    (ChangeSpec.witness6 (enc := enc) (C := Try.checked) false ⟨#[], #[.slice none 0 0, .int .i64 0], []⟩ 8 (by kernel_rfl) (by kernel_rfl) (by kernel_rfl) (by kernel_rfl)) ?_
  intro W base args ds gs before hval0 hW hcnd hsz0 _
  have hval : ∀ (j : Nat) t v, Try.f3.params[j]? = some t → args[j]? = some v → Value.okWide Try.prog W .any base t v := hval0
  have hW' := hW
  obtain ⟨p, q, hA0, hV, rfl, hfz, hnd⟩ := hW
  have hA : DataW.TrodAll enc Try.prog W 0 (fun _ => true) true Try.f3.params.toList args.toList ds p := hA0
  have hsz : (DataW.weightsEach Try.prog (Try.f3.params.toList ++ Rows.foldBackSpec.plain.varTypes Try.prog) (ds ++ gs)).all (· ≤ reachBytes) = true := hsz0
  rw [Try.params3] at hA hval hsz
  obtain ⟨v0, vs0, d0, ds0, p0, q0, hargs, rfl, rfl, h0, r0⟩ := trodAll_cons hA
  obtain ⟨v1, vs1, d1, ds1, p1, q1, rfl, rfl, rfl, h1, r1⟩ := trodAll_cons r0
  obtain ⟨rfl, rfl, rfl⟩ := trodAll_nil r1
  obtain rfl : args = #[v0, v1] := by cases args; simp_all
  obtain ⟨rfl, rfl⟩ := trodVars_none hV
  obtain ⟨A0, n0, k0, rfl⟩ := okWide_slice Try.underlying22 (hval 0 22 v0 rfl rfl)
  have t0 := h0
  have lt0 : ∀ x ∈ p0, x.block < W.heap.size := by obtain ⟨m, hm⟩ := t0; exact DataW.trod_lt m _ _ _ hm
  obtain ⟨f0, u0, c0, b0, w0⟩ := ints_sized h0 (fun elems spare e => sized_slice hsz (j := 0) (t := 22) (e := 3) rfl (by rw [← e]; rfl) Try.underlying22)
  obtain ⟨a1, rfl, rfl, rfl, w1⟩ := open_int Try.underlying3 (hval 1 3 v1 rfl rfl) h1
  clear hA0 hval0
  refine (walk A0 n0 k0 f0 a1 W u0 c0 b0 w0 w1).mono fun e W' ⟨he, bel⟩ => ?_
  subst he
  exact ⟨_, rfl, _, _, _, [], _, [], hW', trodAll_mk1 (shut_bool Try.underlying4 _), (trodAll_cons_mk (Below.trod laidOut (by kernel_rfl) (of_decide_eq_true (by kernel_rfl)) t0 bel lt0) (trodAll_cons_mk (shut_int Try.underlying3 w1) trodAll_mk0)), rfl, bel.frame _, fun h => by cases h⟩

theorem proved : Rows.FoldBackSaid :=
  OpenClaim.holds_of_wide 3 Try.f3 rfl rfl rfl rfl rfl rfl rfl ⟨rfl, rfl, rfl, rfl, rfl⟩ rfl rfl rfl rfl rfl (by kernel_rfl) Try.func3 (by kernel_rfl)
    (of_decide_eq_true (by kernel_rfl)) (by unfold Func.isWrapper; first | (rw [if_pos (by decide +kernel)]; kernel_rfl) | (rw [if_neg (by decide +kernel)]; exact ⟨rfl, rfl⟩))
    (fun os started H enc _ => lifted os started H enc)

end Go.Proofs.Ytjbflndlfdekiaa.foldBack
