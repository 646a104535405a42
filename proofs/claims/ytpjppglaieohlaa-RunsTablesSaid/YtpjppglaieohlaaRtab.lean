/- RunsTables: for any tape of numbers and number: the runs of a table that is made of the tape have its ticks, of each and of all, and those of the table repeated have them as often; one that has none is refused as the document says. -/
import Derived.Test.YtpjppglaieohlaaFrameN
import Derived.Test.YtpjppglaieohlaaRknown
import Derived.Test.YtpjppglaieohlaaOfg
namespace Go.Proofs.Ytpjppglaieohlaa.runsTables
open Go.ChangeShapes Go.WideShapes Go.ChangeAt Go.RowKit Tab
set_option linter.unusedSimpArgs false
set_option linter.unusedVariables false

theorem prod_low (m q : Nat) (hm : m ≤ 4) (hq : q ≤ 1048576) : 0 ≤ (m : Int) * (q : Int) ∧ (m : Int) * (q : Int) ≤ 4194304 ∧ ((m * q : Nat) : Int) = (m : Int) * (q : Int) := by
  have h1 : m * q ≤ 4 * q := Nat.mul_le_mul_right q hm
  have h2 : ((m * q : Nat) : Int) = (m : Int) * (q : Int) := Int.natCast_mul m q
  refine ⟨by omega, by omega, h2⟩
theorem prod_low' (m q : Nat) (hm : m ≤ 4) (hq : q ≤ 1048576) : 0 ≤ (q : Int) * (m : Int) ∧ (q : Int) * (m : Int) ≤ 4194304 ∧ ((q * m : Nat) : Int) = (q : Int) * (m : Int) := by
  rw [Int.mul_comm, Nat.mul_comm]
  exact prod_low m q hm hq
set_option maxRecDepth 100000 in
set_option maxHeartbeats 4000000 in
theorem walk (A0 : Option Addr) (n0 k0 : Nat) (f0 : Nat → Int) (a1 : Int) (w : World) (r0 : RdC w w.heap.size A0 n0 fun j => .int .i64 (f0 j)) (c0 : n0 ≤ k0) (b0 : k0 ≤ 140737488351232) (w0 : ∀ j, j < n0 → (Lit.int .i64 (f0 j)).wf = true) (w1 : (Lit.int .i64 a1).wf = true) :
    Calls Try.prog 4 #[.slice A0 n0 k0, .int .i64 a1] w (Ans (.bool true) w) := by
  have R0 := Lib.hid r0
  obtain ⟨M, hM, hM2⟩ := and_mask a1 3 (by omega)
  have hM : bits .and .i64 a1 3 = (M : Int) := hM
  obtain ⟨m, hm⟩ : ∃ m : Nat, 1 + (M : Int) = (m : Int) := ⟨1 + M, by omega⟩
  have hm1 : 1 ≤ m := by omega
  have hm4 : m ≤ 4 := by omega
  have HMASK := Lib.hid hM
  have HMM := Lib.hid hm
  clear r0 w0 w1 hM hm
  go_enter Try.func4, Try.ntmps4
  go_wp2_with fail
  refine (table_boxd A0 n0 k0 f0 w 3 3 3 3 rfl rfl (by omega) (by omega) (by omega) R0.out (by omega)).mono ?_
  rintro e w1 ⟨x, k, A, n, cap, rfl, hok, hr, hc, hsz, hdp, hb1⟩
  have hn : n ≤ 625 := by
    have h1 := hr.len
    simp only [List.length_cons, F.flat_length] at h1
    have hsz' : k.sz + 1 ≤ 625 := hsz
    omega
  have hX := fun w (h : RdN w w.heap.size A n (x :: k.flat)) => of_any A n cap x k w h hc hok (by omega)
  have hXR := fun w (h : RdN w w.heap.size A n (x :: k.flat)) => rof_any A n cap x k w h hc hok (by omega)
  have hok2 : (F.cons ⟨4, 0, (m : Int)⟩ (F.cons x k .nil) .nil).ok := ⟨(fine_iff _ _ _).2 (by omega), by simp [F.cnt, kn], hok, trivial⟩
  have hY : ∀ A' c' w, RdN w w.heap.size A' (1 + n) (⟨4, 0, (m : Int)⟩ :: (x :: k.flat)) → 1 + n ≤ c' → Calls Try.prog 14 #[.slice A' (1 + n) c'] w (OfG (ofz (1 + n) (k.dep + 1 + 1) (reps m (one x k.lvs))) (tidy (reps m (one x k.lvs))) w) := fun A' c' w h h2 => by
    have e1 : (F.cons x k .nil).flat = x :: k.flat := by simp [F.flat]
    have := of_any A' (1 + n) c' ⟨4, 0, (m : Int)⟩ (F.cons x k .nil) w (by rw [e1]; exact h) h2 hok2 (by omega)
    have e2 : one ⟨4, 0, (m : Int)⟩ (F.cons x k .nil).lvs = reps m (one x k.lvs) := by
      rw [lvs_rep rfl]
      simp [F.lvs]
    have e3 : (F.cons x k .nil).dep = k.dep + 1 := by simp [F.dep]
    rwa [e2, e3] at this
  have hz1 := fun h => ofz_ok (n := n) (D := k.dep + 1) (L := one x k.lvs) h
  have hz2 := fun h h2 => ofz_rep (n := n) (D := k.dep + 1) (m := m) (L := one x k.lvs) h (by omega) h2
  have hz3 := fun h => ofz_ok (n := 1 + n) (D := k.dep + 1 + 1) (L := reps m (one x k.lvs)) h
  have hrr := ofz_runs hok
  have hof : ∀ p, tkOf p (tidy (reps m (one x k.lvs))) = m * tkOf p (tidy (one x k.lvs)) := fun p => by rw [tkOf_tidy, tkOf_tidy, tkOf_reps]
  have htk : ticks (tidy (reps m (one x k.lvs))) = m * ticks (tidy (one x k.lvs)) := by rw [ticks_tidy, ticks_tidy, ticks_reps]
  rw [← ticks_tidy] at hz1 hz2 hz3
  have hbd : ∀ y ∈ x :: k.flat, NdIn y := hr.bd
  have hlen := hr.len
  generalize ofz n (k.dep + 1) (one x k.lvs) = z1 at hX hXR hz1 hz2
  generalize ofz (1 + n) (k.dep + 1 + 1) (reps m (one x k.lvs)) = z2 at hY hz2 hz3
  generalize tidy (reps m (one x k.lvs)) = T2 at hY hz3 hof htk
  generalize tidy (one x k.lvs) = T at hX hXR hz1 hz2 hrr hof htk
  generalize x :: k.flat = l at hX hXR hY hr hbd hlen
  have hz1' : z1 = 0 → n ≤ 128 ∧ ticks T ≤ 4096 ∧ T.length ≤ 96 := fun h => ⟨(hz1 h).1, (hz1 h).2.2⟩
  have hz3' : z2 = 0 → ticks T2 ≤ 4096 ∧ T2.length ≤ 96 := fun h => (hz3 h).2.2
  unfold OfG at hX hXR hY
  have HX := Lib.hid hX
  have HXR := Lib.hid hXR
  have HY := Lib.hid hY
  have HZ1 := Lib.hid hz1'
  have HZ2 := Lib.hid hz2
  have HZ3 := Lib.hid hz3'
  have HRR := Lib.hid hrr
  have HOF := Lib.hid hof
  have HTK := Lib.hid htk
  have HBD := Lib.hid hbd
  have HLEN := Lib.hid hlen
  have HR := Lib.hid hr
  clear hX hXR hY hz1 hz2 hz3 hz1' hz3' hrr hof htk hbd hlen hr hok hok2 hsz hdp R0
  go_wp2_with fail
  refine (HX.out w1 HR.out).mono ?_
  rintro e w2 ⟨A2, m2, c2, rfl, hc2, hr2, hb2⟩
  have HR2 := Lib.hid hr2
  have hrX := HR.out.on hb2
  have hl2 := bl1 w2 (.cells #[.int .i64 4, .int .i64 0, .int .i64 (m : Int)] 44)
  have ql := OwnN.lit w2 w2.heap.size #[.int .i64 4, .int .i64 0, .int .i64 (m : Int)] [⟨4, 0, (m : Int)⟩] 1 rfl rfl (Nat.le_refl _) (by omega) (by intro y hy; simp at hy; subst hy; exact ndIn_mk (by omega) (by omega) (by omega))
  have hrX2 := hrX.on hl2
  have hM : bits .and .i64 a1 3 = (M : Int) := HMASK.out
  have hMM : 1 + (M : Int) = (m : Int) := HMM.out
  clear hr2 HX hrX
  go_wp2_with (at_builtin; go_loud (refine wpList_appV elN rfl (.tmp 29) (.tmp 30) rfl rfl w2.heap.size _ 1 1 _ rfl ql.own A n cap _ _ rfl hrX2.rd (by rw [ns_length, HLEN.out]) (ns_one _) (by omega) (by unfold maxLen; omega) hl2.size (1 + n) rfl _ rfl ?_; intro A4 c4 w4 hw4 hb4 _))
  clear hM hMM
  have hr4 : RdN w4 w4.heap.size A4 (1 + n) (⟨4, 0, (m : Int)⟩ :: l) := ⟨by rw [List.length_cons, HLEN.out]; omega, hw4.rd, fun y hy => by
    rcases List.mem_cons.1 hy with rfl | hy
    · exact ndIn_mk (by omega) (by omega) (by omega)
    · exact HBD.out y hy⟩
  have k4 := hb2.trans ((hl2.trans (hb4.mono (Nat.le_refl _))).mono hb2.size)
  have hc4 := OwnV.cap hw4
  have HYY := Lib.hid (HY.out A4 c4 w4 hr4 hc4)
  have K2 := Lib.hid (hl2.trans (hb4.mono (Nat.le_refl _)))
  clear hr4 hw4 hb4 ql hl2 hrX2 HY
  refine HYY.out.mono ?_
  rintro e w5 ⟨A5, m5, c5, rfl, hc5, hr5, hb5⟩
  have HR5 := Lib.hid hr5
  have k5 := k4.trans (hb5.mono k4.size)
  have K25 := Lib.hid (K2.out.trans (hb5.mono K2.out.size))
  clear hr5 HYY
  go_wp2_with fail
  refine (HXR.out w5 (HR.out.on k5)).mono ?_
  rintro e w6 ⟨A6, m6, c6, rfl, hc6, _, hb6⟩
  have k6 := k5.trans (hb6.mono k5.size)
  have K26 := Lib.hid (K25.out.trans (hb6.mono K25.out.size))
  have K56 := Lib.hid hb6
  clear hb6 hb5 hb2 k4 k5 HXR K2 K25
  by_cases h1 : z1 = 0
  · subst h1
    obtain ⟨hn1, ht1, hl1⟩ := HZ1.out rfl
    have hrT := HR2.out rfl
    have hm2 : m2 = T.length := hrT.len.symm
    have HRT := Lib.hid fun w' (hb : Below w2.heap.size w2 w') => hrT.on hb
    have hlow : m2 ≤ 96 := by omega
    clear hrT HR2
    by_cases h2 : z2 = 0
    · subst h2
      obtain ⟨ht2, hl2⟩ := HZ3.out rfl
      have hrT2 := HR5.out rfl
      have hm5 : m5 ≤ 96 := by rw [← hrT2.len]; exact hl2
      have HRT2 := Lib.hid fun w' (hb : Below w5.heap.size w5 w') => hrT2.on hb
      clear hrT2 HR5 HZ2 HZ3 hl2
      clear hm2
      go_wp2_with fail
      go_loopw [13] (fun s wr => ∃ j : Nat, j ≤ 5 ∧ s = .int .i64 ((j : Int) - 1) ∧ Below w1.heap.size w1 wr ∧ Below w2.heap.size w2 wr ∧ Below w5.heap.size w5 wr) (fun s _ => (4 - intOf s).toNat)
      case atStart => exact ⟨0, by omega, by simp, k6, K26.out, K56.out⟩
      case round =>
        obtain ⟨j, hj, rfl, hbA, hbB, hbC⟩ := hrel
        by_cases hj4 : j < 5
        · have hjl : (j : Int) - 1 < 4 := by omega
          have hcT := ticks_any A5 m5 c5 T2 ((j : Int) - 1) wr (HRT2.out _ hbC) hc5 (by omega) (by omega)
          rw [HOF.out] at hcT
          have htl := tkOf_le ((j : Int) - 1) T
          have hcL := fun w (h : RdR w w.heap.size A2 m2 T) => ticks_any A2 m2 c2 T ((j : Int) - 1) w h hc2 (by omega) (by omega)
          generalize tkOf ((j : Int) - 1) T = q at hcT hcL htl
          obtain ⟨p1, p2, p3⟩ := prod_low m q hm4 (by omega)
          rw [p3] at hcT
          clear p3
          generalize hP : (m : Int) * (q : Int) = P at hcT p1 p2
          have HCT := Lib.hid hcT
          have HCL := Lib.hid hcL
          have HP := Lib.hid hP
          clear hcT hcL hP
          go_wp2_with fail
          refine HCT.out.mono ?_
          rintro e w7 ⟨rfl, hb7⟩
          have kA := hbA.trans (hb7.mono hbA.size)
          have kB := hbB.trans (hb7.mono hbB.size)
          have kC := hbC.trans (hb7.mono hbC.size)
          clear hb7
          go_wp2_with fail
          refine (HCL.out w7 (HRT.out _ kB)).mono ?_
          rintro e w8 ⟨rfl, hb8⟩
          have kA' := kA.trans (hb8.mono kA.size)
          have kB' := kB.trans (hb8.mono kB.size)
          have kC' := kC.trans (hb8.mono kC.size)
          clear hb8
          have hP := HP.out
          go_wp2_with fail
          clear hP
          go_roundw
          case rel => exact ⟨j + 1, by omega, by go_num, kA', kB', kC'⟩
          case measure => simp [intOf]; omega
        · have hjl : ¬ (j : Int) - 1 < 4 := by omega
          have hF := frame_right A2 m2 c2 T wr (HRT.out _ hbB) hc2 (by have := (HRT.out _ hbB).len; have := HRR.out.1; omega) hlow ht1 HRR.out.2
          have hLy := fun w (h : RdR w w.heap.size A5 m5 T2) => length_any A5 m5 c5 T2 w h hc5 (by omega) (by omega)
          have hLx := fun w (h : RdR w w.heap.size A2 m2 T) => length_any A2 m2 c2 T w h hc2 (by omega) (by omega)
          rw [HTK.out] at hLy
          generalize ticks T = q at hLy hLx ht1
          obtain ⟨p1, p2, p3⟩ := prod_low m q hm4 (by omega)
          rw [p3] at hLy
          clear p3
          generalize hP : (m : Int) * (q : Int) = P at hLy p1 p2
          have HF := Lib.hid hF
          have HLY := Lib.hid hLy
          have HLX := Lib.hid hLx
          have HP := Lib.hid hP
          clear hF hLy hLx hP
          go_wp2_with fail
          refine HF.out.mono ?_
          rintro e w7 ⟨rfl, hb7⟩
          have kA := hbA.trans (hb7.mono hbA.size)
          have kB := hbB.trans (hb7.mono hbB.size)
          have kC := hbC.trans (hb7.mono hbC.size)
          clear hb7
          go_wp2_with fail
          refine (HLY.out w7 (HRT2.out _ kC)).mono ?_
          rintro e w8 ⟨rfl, hb8⟩
          have kA' := kA.trans (hb8.mono kA.size)
          have kB' := kB.trans (hb8.mono kB.size)
          clear hb8
          go_wp2_with fail
          refine (HLX.out w8 (HRT.out _ kB')).mono ?_
          rintro e w9 ⟨rfl, hb9⟩
          have kA2 := kA'.trans (hb9.mono kA'.size)
          clear hb9
          have hP := HP.out
          go_wp2_with fail
          clear hP
          refine (known_any w9).mono ?_
          rintro e wz ⟨rfl, hbz⟩
          go_wp2_with fail
          go_ret
          exact Ans.mk rfl (hb1.trans ((kA2.trans (hbz.mono kA2.size)).mono hb1.size))
    · have hne : (z2 != 0) = true := bne_iff_ne.2 h2
      have hne2 : (z2 == 0) = false := beq_eq_false_iff_ne.2 h2
      have hcs := HZ2.out rfl h2
      have hL := fun w (h : RdR w w.heap.size A2 m2 T) => length_any A2 m2 c2 T w h hc2 (by omega) (by omega)
      rw [← hm2] at hcs
      generalize ticks T = q at hcs hL ht1
      obtain ⟨p1, p2, p3⟩ := prod_low' m q hm4 (by omega)
      obtain ⟨q1, q2, q3⟩ := prod_low' m m2 hm4 (by omega)
      have hcs' : 4096 < (q : Int) * (m : Int) ∨ 96 < (m2 : Int) * (m : Int) ∨ 128 ≤ (n : Int) := by omega
      clear p3 q3 hcs
      have HL := Lib.hid hL
      clear hL h2 hm2
      go_wp2_with fail
      refine (HL.out w6 (HRT.out _ K26.out)).mono ?_
      rintro e w7 ⟨rfl, hb7⟩
      have k7 := k6.trans (hb7.mono k6.size)
      clear hb7
      have HCS := Lib.hid hcs'
      clear hcs'
      generalize hP : (q : Int) * (m : Int) = P at p1 p2 HCS
      by_cases c1 : 4096 < P
      · go_wp2_with fail
        refine (known_any w7).mono ?_
        rintro e wz ⟨rfl, hbz⟩
        go_wp2_with fail
        go_ret
        exact Ans.mk rfl (hb1.trans ((k7.trans (hbz.mono k7.size)).mono hb1.size))
      · by_cases c2' : 96 < (m2 : Int) * (m : Int)
        · go_wp2_with fail
          refine (known_any w7).mono ?_
          rintro e wz ⟨rfl, hbz⟩
          go_wp2_with fail
          go_ret
          exact Ans.mk rfl (hb1.trans ((k7.trans (hbz.mono k7.size)).mono hb1.size))
        · have c3 : 128 ≤ (n : Int) := by
            have := HCS.out
            omega
          go_wp2_with fail
          refine (known_any w7).mono ?_
          rintro e wz ⟨rfl, hbz⟩
          go_wp2_with fail
          go_ret
          exact Ans.mk rfl (hb1.trans ((k7.trans (hbz.mono k7.size)).mono hb1.size))
  · have hne : (z1 != 0) = true := bne_iff_ne.2 h1
    have hne2 : (z1 == 0) = false := beq_eq_false_iff_ne.2 h1
    go_wp2_with fail
    refine (known_any w6).mono ?_
    rintro e wz ⟨rfl, hbz⟩
    go_wp2_with fail
    go_ret
    exact Ans.mk rfl (hb1.trans ((k6.trans (hbz.mono k6.size)).mono hb1.size))

set_option maxRecDepth 100000 in
theorem lifted (os : Os) (started : os.Started) (H : Type) (enc : TypeId × Value → H) :
    ReturnsInHanded {} Try.checked os 4 .any (Rows.runsTablesSpec.pre6 enc Try.prog Try.f4 Rows.runsTablesRow.domain false) (Rows.runsTablesSpec.post enc Try.prog Try.f4 false true false false) := by
  refine returnsInHanded_of_change_sized (C := Try.checked) own started (by kernel_rfl) Try.func4
    (ChangeSpec.witness6 (enc := enc) (C := Try.checked) false ⟨#[], #[.slice none 0 0, .int .i64 0], []⟩ 8 (by kernel_rfl) (by kernel_rfl) (by kernel_rfl) (by kernel_rfl)) ?_
  intro W base args ds gs before hval0 hW hcnd hsz0 _
  have hval : ∀ (j : Nat) t v, Try.f4.params[j]? = some t → args[j]? = some v → Value.okWide Try.prog W .any base t v := hval0
  have hW' := hW
  obtain ⟨p, q, hA0, hV, rfl, hfz, hnd⟩ := hW
  have hA : DataW.TrodAll enc Try.prog W 0 (fun _ => true) true Try.f4.params.toList args.toList ds p := hA0
  have hsz : (DataW.weightsEach Try.prog (Try.f4.params.toList ++ Rows.runsTablesSpec.plain.varTypes Try.prog) (ds ++ gs)).all (· ≤ reachBytes) = true := hsz0
  rw [Try.params4] at hA hval hsz
  obtain ⟨v0, vs0, d0, ds0, p0, q0, hargs, rfl, rfl, h0, r0⟩ := trodAll_cons hA
  obtain ⟨v1, vs1, d1, ds1, p1, q1, rfl, rfl, rfl, h1, r1⟩ := trodAll_cons r0
  obtain ⟨rfl, rfl, rfl⟩ := trodAll_nil r1
  obtain rfl : args = #[v0, v1] := by cases args; simp_all
  obtain ⟨rfl, rfl⟩ := trodVars_none hV
  obtain ⟨A0, n0, k0, rfl⟩ := okWide_slice Try.underlying22 (hval 0 22 v0 rfl rfl)
  have t0 := h0
  have lt0 : ∀ x ∈ p0, x.block < W.heap.size := by obtain ⟨m, hm⟩ := t0; exact DataW.trod_lt m _ _ _ hm
  obtain ⟨f0, u0, c0, b0, w0⟩ := ints_sized h0 (fun elems spare e => sized_slice hsz (j := 0) (t := 22) (e := 3) rfl (by rw [← e]; rfl) Try.underlying22)
  obtain ⟨a1, rfl, rfl, rfl, w1⟩ := open_int Try.underlying2 (hval 1 2 v1 rfl rfl) h1
  clear hA0 hval0
  refine (walk A0 n0 k0 f0 a1 W u0 c0 b0 w0 w1).mono fun e W' ⟨he, bel⟩ => ?_
  subst he
  exact ⟨_, rfl, _, _, _, [], _, [], hW', trodAll_mk1 (shut_bool Try.underlying4 _), (trodAll_cons_mk (Below.trod laidOut (by kernel_rfl) (of_decide_eq_true (by kernel_rfl)) t0 bel lt0) (trodAll_cons_mk (shut_int Try.underlying2 w1) trodAll_mk0)), rfl, bel.frame _, fun h => by cases h⟩

theorem proved : Rows.RunsTablesSaid :=
  OpenClaim.holds_of_wide 4 Try.f4 rfl rfl rfl rfl rfl rfl rfl ⟨rfl, rfl, rfl, rfl, rfl⟩ rfl rfl rfl rfl rfl (by kernel_rfl) Try.func4 (by kernel_rfl)
    (of_decide_eq_true (by kernel_rfl)) (by unfold Func.isWrapper; first | (rw [if_pos (by decide +kernel)]; kernel_rfl) | (rw [if_neg (by decide +kernel)]; exact ⟨rfl, rfl⟩))
    (fun os started H enc _ => lifted os started H enc)

end Go.Proofs.Ytpjppglaieohlaa.runsTables
