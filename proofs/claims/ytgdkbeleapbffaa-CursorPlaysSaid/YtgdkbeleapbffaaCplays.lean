/- CursorPlays: for any tape of numbers, depth, steps, row of nodes and tick: a table is gone through as the document says, leaf by leaf, tick by tick, and whose a tick is is told so. -/
import Derived.Test.YtgdkbeleapbffaaFrameR
import Derived.Test.YtgdkbeleapbffaaAny
namespace Go.Proofs.Ytgdkbeleapbffaa.cursorPlays
open Go.ChangeShapes Go.WideShapes Go.ChangeAt Go.RowKit Tab
set_option linter.unusedSimpArgs false
set_option linter.unusedVariables false

set_option maxRecDepth 100000 in
set_option maxHeartbeats 4000000 in
theorem walk (A0 : Option Addr) (n0 k0 : Nat) (f0 : Nat → Int) (a1 : Int) (A2 : Option Addr) (n2 k2 : Nat) (f2 : Nat → Int) (A3 : Option Addr) (n3 k3 : Nat) (l3 : List Nd) (a4 : Int) (w : World) (r0 : RdC w w.heap.size A0 n0 fun j => .int .i64 (f0 j)) (c0 : n0 ≤ k0) (b0 : k0 ≤ 140737488351232) (w0 : ∀ j, j < n0 → (Lit.int .i64 (f0 j)).wf = true) (w1 : (Lit.int .i64 a1).wf = true) (r2 : RdC w w.heap.size A2 n2 fun j => .int .i64 (f2 j)) (c2 : n2 ≤ k2) (b2 : k2 ≤ 140737488351232) (w2 : ∀ j, j < n2 → (Lit.int .i64 (f2 j)).wf = true) (r3 : RdN w w.heap.size A3 n3 l3) (c3 : n3 ≤ k3) (b3 : k3 ≤ 140737488351232) (w4 : (Lit.int .i64 a4).wf = true) :
    Calls Try.prog 4 #[.slice A0 n0 k0, .int .i64 a1, .slice A2 n2 k2, .slice A3 n3 k3, .int .i64 a4] w (Ans (.bool true) w) := by
  have R0 := Lib.hid r0
  have R2 := Lib.hid r2
  have R3 := Lib.hid r3
  obtain ⟨ht1, ht2⟩ : -9223372036854775808 ≤ a4 ∧ a4 ≤ 9223372036854775807 := by simpa using bounds_i64 w4
  clear r0 r2 r3 w0 w1 w2 w4
  go_enter Try.func4, Try.ntmps4
  go_wp2_with fail
  refine (within_at a1 4 4 _ rfl (by omega)).mono ?_
  rintro e w1 ⟨d, hd4, rfl, rfl⟩
  go_wp2_with fail
  refine (table_box A0 n0 k0 f0 w 4 (d : Int) 4 d rfl rfl (by omega) (by omega) (by omega) R0.out (by omega)).mono ?_
  rintro e w2 ⟨x, k, A, n, cap, rfl, hok, hr, hc, hsz, hb2⟩
  have hn : n ≤ 3125 := by
    have h1 := hr.len
    simp only [List.length_cons, F.flat_length] at h1
    have h2 : 5 ^ (d + 1) ≤ 3125 := Nat.le_trans (Nat.pow_le_pow_right (by omega) (show d + 1 ≤ 5 by omega)) (by decide)
    omega
  clear hsz R0
  have hLn := fun w' (h : RdN w' w'.heap.size A n (x :: k.flat)) => rLength_tree A n cap _ x k w' h hc (by omega) hok rfl
  have hRr := fun w' (h : RdN w' w'.heap.size A n (x :: k.flat)) => rright_tree A n cap _ x k w' h hc (by omega) hok rfl
  -- what is asked behind all cases
  have hend : ∀ w', Below w.heap.size w w' → RdN w' w'.heap.size A n (x :: k.flat) →
      Calls Try.prog 9 #[.slice A n cap, .slice A2 n2 k2] w' (Ans (.bool true) w') := fun w' hb h =>
    play_tree A n cap x k A2 n2 k2 f2 w' h hc hok (by omega) ((R2.out.below hb).more hb.size) c2 (by omega)
  have hraw : ∀ w', Below w.heap.size w w' → Calls Try.prog 9 #[.slice A3 n3 k3, .slice A2 n2 k2] w' (Ans (.bool true) w') := fun w' hb =>
    play_row A3 n3 k3 l3 A2 n2 k2 f2 w' ((R3.out.below hb).more hb.size) c3 (by omega) ((R2.out.below hb).more hb.size) c2 (by omega)
  have HEND := Lib.hid hend
  have HRAW := Lib.hid hraw
  clear hend hraw R2 R3
  unfold Len at hLn
  rcases rt_cases n (k.dep + 1) (F.tick x k.len) with ⟨e0, h1, h2, h3⟩ | h0
  · have hPt := fun w' (h : RdN w' w'.heap.size A n (x :: k.flat)) => part_right A n cap x k a4 w' h hc hok h1 h2 h3
    have hLv := fun w' (h : RdN w' w'.heap.size A n (x :: k.flat)) => leaves_right A n cap x k w' h hc hok h1 h2 h3
    have hpos : ∀ r ∈ one x k.lvs, 1 ≤ r.n := fun r hr => lvs_pos hok r (by simpa [F.lvs] using hr)
    have hT : ticks (one x k.lvs) = F.tick x k.len := by rw [one_ticks, lvs_ticks]
    have hq := length_le_ticks hpos
    rw [e0] at hRr
    have elv : lv (F.tick x k.len) = (F.tick x k.len : Nat) := if_pos h3
    have elb : lb (F.tick x k.len) = true := decide_eq_true h3
    rw [elv, elb] at hLn
    clear elv elb e0 hok h1 h2
    generalize x :: k.flat = l at *
    generalize one x k.lvs = L at *
    generalize F.tick x k.len = T at *
    have hmem : ∀ r ∈ L, 1 ≤ r.n ∧ r.n ≤ 1048576 := fun r hr => ⟨hpos r hr, by
      have : ∀ (s : List Rn), r ∈ s → r.n ≤ ticks s := fun s => by
        induction s with
        | nil => intro h; cases h
        | cons q s ih =>
          intro h
          simp only [ticks]
          rcases List.mem_cons.1 h with rfl | h
          · omega
          · have := ih h; omega
      have := this L hr
      omega⟩
    have HMEM := Lib.hid hmem
    have HQ : Hid (L.length ≤ 4096) := Lib.hid (by omega)
    have HLN := Lib.hid hLn
    have HRR := Lib.hid hRr
    have HPT := Lib.hid hPt
    have HLV := Lib.hid hLv
    have HT := Lib.hid hT
    have HR := Lib.hid hr
    clear hLn hRr hPt hLv hpos hT hq hmem hr
    go_wp2_with fail
    refine (HLN.out w2 HR.out).mono ?_
    rintro e w3 ⟨rfl, hb3⟩
    have k3' := hb2.trans (hb3.mono hb2.size)
    have HR3 := Lib.hid (HR.out.on hb3)
    clear hb3
    go_wp2_with fail
    by_cases hlow : a4 < 0
    · have hV : whoAt L a4 = -1 := whoAt_neg L _ hlow
      have HV := Lib.hid hV
      clear hV
      refine (HPT.out w3 HR3.out).mono ?_
      rw [HV.out]
      rintro e w4 ⟨rfl, hb4⟩
      have k4 := k3'.trans (hb4.mono k3'.size)
      have HR4 := Lib.hid (HR3.out.on hb4)
      clear hb4
      go_wp2_with fail
      refine (HEND.out w4 k4 HR4.out).mono ?_
      rintro e w10 ⟨rfl, hb10⟩
      have k10 := k4.trans (hb10.mono k4.size)
      clear hb10
      go_wp2_with fail
      refine (HRAW.out w10 k10).mono ?_
      rintro e w11 ⟨rfl, hb11⟩
      have k11 := k10.trans (hb11.mono k10.size)
      clear hb11
      go_wp2_with fail
      refine (known_any w11).mono ?_
      rintro e w12 ⟨rfl, hb12⟩
      go_wp2_with fail
      go_ret
      exact Ans.mk rfl (k11.trans (hb12.mono k11.size))
    · by_cases hhigh : (T : Int) ≤ a4
      · have hV : whoAt L a4 = -1 := whoAt_out L _ (by rw [HT.out]; exact hhigh)
        have HV := Lib.hid hV
        clear hV
        refine (HPT.out w3 HR3.out).mono ?_
        rw [HV.out]
        rintro e w4 ⟨rfl, hb4⟩
        have k4 := k3'.trans (hb4.mono k3'.size)
        have HR4 := Lib.hid (HR3.out.on hb4)
        clear hb4
        go_wp2_with fail
        refine (HEND.out w4 k4 HR4.out).mono ?_
        rintro e w10 ⟨rfl, hb10⟩
        have k10 := k4.trans (hb10.mono k4.size)
        clear hb10
        go_wp2_with fail
        refine (HRAW.out w10 k10).mono ?_
        rintro e w11 ⟨rfl, hb11⟩
        have k11 := k10.trans (hb11.mono k10.size)
        clear hb11
        go_wp2_with fail
        refine (known_any w11).mono ?_
        rintro e w12 ⟨rfl, hb12⟩
        go_wp2_with fail
        go_ret
        exact Ans.mk rfl (k11.trans (hb12.mono k11.size))
      · refine (HPT.out w3 HR3.out).mono ?_
        rintro e w4 ⟨rfl, hb4⟩
        have k4 := k3'.trans (hb4.mono k3'.size)
        have HR4 := Lib.hid (HR3.out.on hb4)
        clear hb4
        have HAT := Lib.hid fun (A' : Option Addr) (n' c' : Nat) w' (h : RdR w' w'.heap.size A' n' L) (h1 : n' ≤ c') (h2 : n' ≤ 1048576) => rat_any A' n' c' L a4 w' h h1 h2 HMEM.out ht2
        generalize whoAt L a4 = V at HAT ⊢
        go_wp2_with fail
        refine (HRR.out w4 HR4.out).mono ?_
        rintro e w5 ⟨rfl, hb5⟩
        have k5 := k4.trans (hb5.mono k4.size)
        have HR5 := Lib.hid (HR4.out.on hb5)
        clear hb5
        go_wp2_with fail
        refine (HLV.out w5 HR5.out).mono ?_
        rintro e w6 ⟨A6, c6, rfl, hr6, hc6, hb6, _⟩
        have k6 := k5.trans (hb6.mono k5.size)
        have HR6 := Lib.hid (HR5.out.on hb6)
        have HAT6 := Lib.hid (HAT.out A6 L.length c6 w6 hr6 hc6 (by have := HQ.out; omega))
        clear hb6 hr6 hc6
        generalize L.length = q at HAT6 ⊢
        go_wp2_with fail
        refine HAT6.out.mono ?_
        rintro e w7 ⟨rfl, hb7⟩
        have k7 := k6.trans (hb7.mono k6.size)
        have HR7 := Lib.hid (HR6.out.on hb7)
        clear hb7
        go_wp2_with fail
        refine (HEND.out w7 k7 HR7.out).mono ?_
        rintro e w10 ⟨rfl, hb10⟩
        have k10 := k7.trans (hb10.mono k7.size)
        clear hb10
        go_wp2_with fail
        refine (HRAW.out w10 k10).mono ?_
        rintro e w11 ⟨rfl, hb11⟩
        have k11 := k10.trans (hb11.mono k10.size)
        clear hb11
        go_wp2_with fail
        refine (known_any w11).mono ?_
        rintro e w12 ⟨rfl, hb12⟩
        go_wp2_with fail
        go_ret
        exact Ans.mk rfl (k11.trans (hb12.mono k11.size))
  · have hPt := fun w' (h : RdN w' w'.heap.size A n (x :: k.flat)) => part_wrong A n cap a4 w' (new_wrong A n cap w' _ (right_tree A n cap _ x k w' h hc (by omega) hok rfl) h0)
    clear hok
    generalize hlv : lv (F.tick x k.len) = V at hLn
    generalize hlb : lb (F.tick x k.len) = V2 at hLn
    generalize rt n (k.dep + 1) (F.tick x k.len) = R at h0 hRr
    generalize x :: k.flat = l at *
    clear hlv hlb
    have hne : (R != 0) = true := bne_iff_ne.2 h0
    have hne2 : (R == 0) = false := beq_eq_false_iff_ne.2 h0
    have HRR := Lib.hid hRr
    have HLN := Lib.hid hLn
    have HPT := Lib.hid hPt
    have HR := Lib.hid hr
    clear hRr h0 hLn hPt hr
    go_wp2_with fail
    refine (HLN.out w2 HR.out).mono ?_
    rintro e w3 ⟨rfl, hb3⟩
    have k3' := hb2.trans (hb3.mono hb2.size)
    have HR3 := Lib.hid (HR.out.on hb3)
    clear hb3
    go_wp2_with fail
    refine (HPT.out w3 HR3.out).mono ?_
    rintro e w4 ⟨rfl, hb4⟩
    have k4 := k3'.trans (hb4.mono k3'.size)
    have HR4 := Lib.hid (HR3.out.on hb4)
    clear hb4
    cases V2 with
    | false =>
      go_wp2_with fail
      refine (HEND.out w4 k4 HR4.out).mono ?_
      rintro e w10 ⟨rfl, hb10⟩
      have k10 := k4.trans (hb10.mono k4.size)
      clear hb10
      go_wp2_with fail
      refine (HRAW.out w10 k10).mono ?_
      rintro e w11 ⟨rfl, hb11⟩
      have k11 := k10.trans (hb11.mono k10.size)
      clear hb11
      go_wp2_with fail
      refine (known_any w11).mono ?_
      rintro e w12 ⟨rfl, hb12⟩
      go_wp2_with fail
      go_ret
      exact Ans.mk rfl (k11.trans (hb12.mono k11.size))
    | true =>
      by_cases hlow : a4 < 0
      · go_wp2_with fail
        refine (HEND.out w4 k4 HR4.out).mono ?_
        rintro e w10 ⟨rfl, hb10⟩
        have k10 := k4.trans (hb10.mono k4.size)
        clear hb10
        go_wp2_with fail
        refine (HRAW.out w10 k10).mono ?_
        rintro e w11 ⟨rfl, hb11⟩
        have k11 := k10.trans (hb11.mono k10.size)
        clear hb11
        go_wp2_with fail
        refine (known_any w11).mono ?_
        rintro e w12 ⟨rfl, hb12⟩
        go_wp2_with fail
        go_ret
        exact Ans.mk rfl (k11.trans (hb12.mono k11.size))
      · by_cases hhigh : V ≤ a4
        · go_wp2_with fail
          refine (HEND.out w4 k4 HR4.out).mono ?_
          rintro e w10 ⟨rfl, hb10⟩
          have k10 := k4.trans (hb10.mono k4.size)
          clear hb10
          go_wp2_with fail
          refine (HRAW.out w10 k10).mono ?_
          rintro e w11 ⟨rfl, hb11⟩
          have k11 := k10.trans (hb11.mono k10.size)
          clear hb11
          go_wp2_with fail
          refine (known_any w11).mono ?_
          rintro e w12 ⟨rfl, hb12⟩
          go_wp2_with fail
          go_ret
          exact Ans.mk rfl (k11.trans (hb12.mono k11.size))
        · go_wp2_with fail
          refine (HRR.out w4 HR4.out).mono ?_
          rintro e w5 ⟨rfl, hb5⟩
          have k5 := k4.trans (hb5.mono k4.size)
          have HR5 := Lib.hid (HR4.out.on hb5)
          clear hb5
          go_wp2_with fail
          refine (HEND.out w5 k5 HR5.out).mono ?_
          rintro e w10 ⟨rfl, hb10⟩
          have k10 := k5.trans (hb10.mono k5.size)
          clear hb10
          go_wp2_with fail
          refine (HRAW.out w10 k10).mono ?_
          rintro e w11 ⟨rfl, hb11⟩
          have k11 := k10.trans (hb11.mono k10.size)
          clear hb11
          go_wp2_with fail
          refine (known_any w11).mono ?_
          rintro e w12 ⟨rfl, hb12⟩
          go_wp2_with fail
          go_ret
          exact Ans.mk rfl (k11.trans (hb12.mono k11.size))

set_option maxRecDepth 100000 in
theorem lifted (os : Os) (started : os.Started) (H : Type) (enc : TypeId × Value → H) :
    ReturnsInHanded {} Try.checked os 4 .any (Rows.cursorPlaysSpec.pre6 enc Try.prog Try.f4 Rows.cursorPlaysRow.domain false) (Rows.cursorPlaysSpec.post enc Try.prog Try.f4 false true false false) := by
  refine returnsInHanded_of_change_sized (C := Try.checked) own started (by kernel_rfl) Try.func4
    (ChangeSpec.witness6 (enc := enc) (C := Try.checked) false ⟨#[], #[.slice none 0 0, .int .i64 0, .slice none 0 0, .slice none 0 0, .int .i64 0], []⟩ 8 (by kernel_rfl) (by kernel_rfl) (by kernel_rfl) (by kernel_rfl)) ?_
  intro W base args ds gs before hval0 hW hcnd hsz0 _
  have hval : ∀ (j : Nat) t v, Try.f4.params[j]? = some t → args[j]? = some v → Value.okWide Try.prog W .any base t v := hval0
  have hW' := hW
  obtain ⟨p, q, hA0, hV, rfl, hfz, hnd⟩ := hW
  have hA : DataW.TrodAll enc Try.prog W 0 (fun _ => true) true Try.f4.params.toList args.toList ds p := hA0
  have hsz : (DataW.weightsEach Try.prog (Try.f4.params.toList ++ Rows.cursorPlaysSpec.plain.varTypes Try.prog) (ds ++ gs)).all (· ≤ reachBytes) = true := hsz0
  rw [Try.params4] at hA hval hsz
  obtain ⟨v0, vs0, d0, ds0, p0, q0, hargs, rfl, rfl, h0, r0⟩ := trodAll_cons hA
  obtain ⟨v1, vs1, d1, ds1, p1, q1, rfl, rfl, rfl, h1, r1⟩ := trodAll_cons r0
  obtain ⟨v2, vs2, d2, ds2, p2, q2, rfl, rfl, rfl, h2, r2⟩ := trodAll_cons r1
  obtain ⟨v3, vs3, d3, ds3, p3, q3, rfl, rfl, rfl, h3, r3⟩ := trodAll_cons r2
  obtain ⟨v4, vs4, d4, ds4, p4, q4, rfl, rfl, rfl, h4, r4⟩ := trodAll_cons r3
  obtain ⟨rfl, rfl, rfl⟩ := trodAll_nil r4
  obtain rfl : args = #[v0, v1, v2, v3, v4] := by cases args; simp_all
  obtain ⟨rfl, rfl⟩ := trodVars_none hV
  obtain ⟨A0, n0, k0, rfl⟩ := okWide_slice Try.underlying24 (hval 0 24 v0 rfl rfl)
  have t0 := h0
  have lt0 : ∀ x ∈ p0, x.block < W.heap.size := by obtain ⟨m, hm⟩ := t0; exact DataW.trod_lt m _ _ _ hm
  obtain ⟨f0, u0, c0, b0, w0⟩ := ints_sized h0 (fun elems spare e => sized_slice hsz (j := 0) (t := 24) (e := 3) rfl (by rw [← e]; rfl) Try.underlying24)
  obtain ⟨a1, rfl, rfl, rfl, w1⟩ := open_int Try.underlying3 (hval 1 3 v1 rfl rfl) h1
  obtain ⟨A2, n2, k2, rfl⟩ := okWide_slice Try.underlying24 (hval 2 24 v2 rfl rfl)
  have t2 := h2
  have lt2 : ∀ x ∈ p2, x.block < W.heap.size := by obtain ⟨m, hm⟩ := t2; exact DataW.trod_lt m _ _ _ hm
  obtain ⟨f2, u2, c2, b2, w2⟩ := ints_sized h2 (fun elems spare e => sized_slice hsz (j := 2) (t := 24) (e := 3) rfl (by rw [← e]; rfl) Try.underlying24)
  obtain ⟨A3, n3, k3, rfl⟩ := okWide_slice Try.underlying22 (hval 3 22 v3 rfl rfl)
  have t3 := h3
  have lt3 : ∀ x ∈ p3, x.block < W.heap.size := by obtain ⟨m, hm⟩ := t3; exact DataW.trod_lt m _ _ _ hm
  obtain ⟨l3, u3, c3, b3⟩ := nodes_sized h3 (fun elems spare e => sized_slice hsz (j := 3) (t := 22) (e := 31) rfl (by rw [← e]; rfl) Try.underlying22)
  obtain ⟨a4, rfl, rfl, rfl, w4⟩ := open_int Try.underlying2 (hval 4 2 v4 rfl rfl) h4
  clear hA0 hval0
  refine (walk A0 n0 k0 f0 a1 A2 n2 k2 f2 A3 n3 k3 l3 a4 W u0 c0 b0 w0 w1 u2 c2 b2 w2 u3 c3 b3 w4).mono fun e W' ⟨he, bel⟩ => ?_
  subst he
  exact ⟨_, rfl, _, _, _, [], _, [], hW', trodAll_mk1 (shut_bool Try.underlying4 _), (trodAll_cons_mk (Below.trod laidOut (by kernel_rfl) (of_decide_eq_true (by kernel_rfl)) t0 bel lt0) (trodAll_cons_mk (shut_int Try.underlying3 w1) (trodAll_cons_mk (Below.trod laidOut (by kernel_rfl) (of_decide_eq_true (by kernel_rfl)) t2 bel lt2) (trodAll_cons_mk (Below.trod laidOut (by kernel_rfl) (of_decide_eq_true (by kernel_rfl)) t3 bel lt3) (trodAll_cons_mk (shut_int Try.underlying2 w4) trodAll_mk0))))), rfl, bel.frame _, fun h => by cases h⟩

theorem proved : Rows.CursorPlaysSaid :=
  OpenClaim.holds_of_wide 4 Try.f4 rfl rfl rfl rfl rfl rfl rfl ⟨rfl, rfl, rfl, rfl, rfl⟩ rfl rfl rfl rfl rfl (by kernel_rfl) Try.func4 (by kernel_rfl)
    (of_decide_eq_true (by kernel_rfl)) (by unfold Func.isWrapper; first | (rw [if_pos (by decide +kernel)]; kernel_rfl) | (rw [if_neg (by decide +kernel)]; exact ⟨rfl, rfl⟩))
    (fun os started H enc _ => lifted os started H enc)

end Go.Proofs.Ytgdkbeleapbffaa.cursorPlays
