/- CursorTicks: for any tape of numbers and depth: tick by tick, and by asking whose each tick is, a table tells the same. -/
import Derived.Test.YtgdkbeleapbffaaFrameN
import Derived.Test.YtgdkbeleapbffaaAny
namespace Go.Proofs.Ytgdkbeleapbffaa.cursorTicks
open Go.ChangeShapes Go.WideShapes Go.ChangeAt Go.RowKit Tab
set_option linter.unusedSimpArgs false
set_option linter.unusedVariables false

/-- Whose tick gn is, gn ticks being gone. -/
theorem who_gone {wr : World} {b : Nat} {A2 : Option Addr} {n2 c2 : Nat} {l : List Nd} {L : List Rn} {i tk gn : Nat} (h : Cur wr b A2 n2 c2 l (L.drop i) tk gn) (hs : gn = ticks (L.take i) + tk) (hlt : gn < ticks L) :
    ∃ r, L[i]? = some r ∧ whoAt L (gn : Int) = r.p ∧ tk < r.n := by
  by_cases hi : i < L.length
  · obtain ⟨r, hr⟩ : ∃ r, L[i]? = some r := ⟨_, List.getElem?_eq_getElem hi⟩
    have h2 := h.low r _ (drop_more hr)
    have h3 := whoAt_at (L.take i) r (L.drop (i + 1)) tk h2
    rw [← drop_more hr, List.take_append_drop] at h3
    exact ⟨r, hr, by rw [hs]; exact h3, h2⟩
  · have h2 := h.low0 (List.drop_eq_nil_of_le (by omega))
    rw [List.take_of_length_le (by omega), h2] at hs
    omega
/-- One tick on. -/
theorem one_more {L : List Rn} {i tk gn : Nat} {r : Rn} (hr : L[i]? = some r) (hs : gn = ticks (L.take i) + tk) (ht : tk < r.n) :
    ∃ i' tk', nextTd (L.drop i) tk 1 = (L.drop i', tk') ∧ gn + 1 = ticks (L.take i') + tk' := by
  rw [drop_more hr]
  simp only [nextTd]
  by_cases h : tk + 1 < r.n
  · rw [if_pos h]
    exact ⟨i, tk + 1, by rw [← drop_more hr], by omega⟩
  · rw [if_neg h]
    have := take_more hr
    exact ⟨i + 1, 0, rfl, by omega⟩
set_option maxRecDepth 100000 in
set_option maxHeartbeats 4000000 in
theorem walk (A0 : Option Addr) (n0 k0 : Nat) (f0 : Nat → Int) (a1 : Int) (w : World) (r0 : RdC w w.heap.size A0 n0 fun j => .int .i64 (f0 j)) (c0 : n0 ≤ k0) (b0 : k0 ≤ 140737488351232) (w0 : ∀ j, j < n0 → (Lit.int .i64 (f0 j)).wf = true) (w1 : (Lit.int .i64 a1).wf = true) :
    Calls Try.prog 6 #[.slice A0 n0 k0, .int .i64 a1] w (Ans (.bool true) w) := by
  have R0 := Lib.hid r0
  clear r0 w0 w1
  go_enter Try.func6, Try.ntmps6
  go_wp2_with fail
  refine (within_at a1 4 4 _ rfl (by omega)).mono ?_
  rintro e w1 ⟨d, hd4, rfl, rfl⟩
  go_wp2_with fail
  refine (table_box A0 n0 k0 f0 w 4 (d : Int) 4 d rfl rfl (by omega) (by omega) (by omega) R0.out (by omega)).mono ?_
  rintro e w2 ⟨x, k, A, n, cap, rfl, hok, hr, hc, hsz, hb2⟩
  have hn : n ≤ 3125 := by
    have h1 := hr.len
    simp only [List.length_cons, F.flat_length] at h1
    have h2 : 5 ^ (d + 1) ≤ 3125 := Nat.le_trans (Nat.pow_le_pow_right (by omega) (show d + 1 ≤ 5 by omega)) (by decide)
    omega
  clear hsz R0
  rcases rt_cases n (k.dep + 1) (F.tick x k.len) with ⟨_, h1, h2, h3⟩ | h0
  · have hN := new_right A n cap x k w2 hr hc hok h1 h2 h3
    have hLn : ∀ w', RdN w' w'.heap.size A n (x :: k.flat) → Calls Try.prog 13 #[.slice A n cap] w' fun e w'' => e = .returned (.tuple #[.int .i64 ((F.tick x k.len : Nat) : Int), .bool true]) ∧ Below w'.heap.size w' w'' := fun w' h => by
      have := rLength_tree A n cap _ x k w' h hc (by omega) hok rfl
      unfold Len lv lb at this
      rwa [if_pos h3, decide_eq_true h3] at this
    have hPt := fun w t (h : RdN w w.heap.size A n (x :: k.flat)) => part_right A n cap x k t w h hc hok h1 h2 h3
    have hT : ticks (one x k.lvs) = F.tick x k.len := by rw [one_ticks, lvs_ticks]
    unfold Born at hN
    generalize x :: k.flat = l at *
    generalize one x k.lvs = L at *
    generalize F.tick x k.len = T at *
    have HT := Lib.hid hT
    have HN := Lib.hid hN
    have HLN := Lib.hid hLn
    have HPT := Lib.hid hPt
    have HR := Lib.hid hr
    clear hN hLn hPt hT hok h1 h2 hr
    go_wp2_with fail
    refine HN.out.mono ?_
    rintro e w3 ⟨b, A2, n2, c2, rfl, hC, hbb, hb3⟩
    have HC := Lib.hid hC
    clear hC HN
    go_wp2_with fail
    refine (HLN.out w3 (HR.out.on hb3)).mono ?_
    rintro e w4 ⟨rfl, hb4⟩
    have k4 := hb3.trans (hb4.mono hb3.size)
    have HC4 := Lib.hid (HC.out.below hb4)
    clear HC hb3 hb4 HLN
    go_wp2_with fail
    obtain ⟨M, hM⟩ : ∃ M : Nat, (200 : Int) = (M : Int) := ⟨200, rfl⟩
    rw [hM]
    have hM1 : M ≤ 200 := by omega
    clear hM
    go_loopw [9] (fun s wr => ∃ gn i tk : Nat, gn ≤ T ∧ s = .int .i64 gn ∧ gn = ticks (L.take i) + tk ∧ Cur wr b A2 n2 c2 l (L.drop i) tk gn ∧ Below w2.heap.size w2 wr) (fun s _ => T - (intOf s).toNat)
    case atStart => exact ⟨0, 0, 0, by omega, rfl, by simp [ticks], HC4.out, k4⟩
    case round =>
      obtain ⟨gn, i, tk, hgT, rfl, hgn, hC, hb⟩ := hrel
      have HCC := Lib.hid hC
      have HGN := Lib.hid hgn
      clear hC hgn
      by_cases hlt : gn < T ∧ gn < M
      · obtain ⟨hlt1, hlt2⟩ := hlt
        obtain ⟨r, hr, hwho, htk⟩ := who_gone HCC.out HGN.out (by rw [HT.out]; exact hlt1)
        obtain ⟨i', tk', hnx, hg'⟩ := one_more hr HGN.out htk
        have hC := HCC.out
        have hTK : Calls Try.prog 18 #[.pointer (some ⟨b, 0, none⟩)] wr (CurN b A2 n2 c2 l (L.drop i') tk' (gn + 1) (.tuple #[.int .i64 r.p, .bool true]) wr) := by
          rw [drop_more hr] at hC hnx
          have := tick_some b A2 n2 c2 l r (L.drop (i + 1)) tk gn wr hC
          rwa [hnx] at this
        have HTK := Lib.hid hTK
        have HG' := Lib.hid hg'
        have HWHO := Lib.hid hwho
        clear hC hTK hnx hg' hwho htk hr
        go_wp2_with fail
        refine HTK.out.mono ?_
        rintro e w5 ⟨rfl, hC5, hG5⟩
        have k5 := below_gb hb hG5 hbb hb.size
        have HC5 := Lib.hid hC5
        clear hC5 hG5
        go_wp2_with fail
        refine (HPT.out w5 (gn : Int) (HR.out.on k5)).mono ?_
        rw [HWHO.out]
        rintro e w6 ⟨rfl, hb6⟩
        have k6 := k5.trans (hb6.mono k5.size)
        have HC6 := Lib.hid (HC5.out.below hb6)
        clear hb6
        go_wp2_with fail
        refine (at_any b A2 n2 c2 l _ tk' (gn + 1) w6 HC6.out).mono ?_
        rintro e w7 ⟨rfl, rfl⟩
        go_wp2_with fail
        go_roundw
        case rel => exact ⟨gn + 1, i', tk', by omega, by go_num, HG'.out, HC6.out, k6⟩
        case measure => simp [intOf]; omega
      · have hout : whoAt L (T : Int) = -1 := whoAt_out L _ (by rw [HT.out]; exact Int.le_refl _)
        have hneg : whoAt L (-1) = -1 := whoAt_neg L _ (by omega)
        have HOUT := Lib.hid hout
        have HNEG := Lib.hid hneg
        clear hout hneg
        by_cases hlt1 : gn < T
        · have hlt2 : ¬ gn < M := fun h => hlt ⟨hlt1, h⟩
          have hlt3 : M ≤ gn := by omega
          clear hlt
          go_wp2_with fail
          refine (HPT.out wr (T : Int) (HR.out.on hb)).mono ?_
          rw [HOUT.out]
          rintro e w6 ⟨rfl, hb6⟩
          have k6 := hb.trans (hb6.mono hb.size)
          go_wp2_with fail
          refine (HPT.out w6 (-1) (HR.out.on k6)).mono ?_
          rw [HNEG.out]
          rintro e w7 ⟨rfl, hb7⟩
          have k7 := k6.trans (hb7.mono k6.size)
          go_wp2_with fail
          refine (known_any w7).mono ?_
          rintro e w8 ⟨rfl, hb8⟩
          go_wp2_with fail
          go_ret
          exact Ans.mk rfl (hb2.trans ((k7.trans (hb8.mono k7.size)).mono hb2.size))
        · have hlt3 : T ≤ gn := by omega
          clear hlt
          go_wp2_with fail
          refine (HPT.out wr (T : Int) (HR.out.on hb)).mono ?_
          rw [HOUT.out]
          rintro e w6 ⟨rfl, hb6⟩
          have k6 := hb.trans (hb6.mono hb.size)
          go_wp2_with fail
          refine (HPT.out w6 (-1) (HR.out.on k6)).mono ?_
          rw [HNEG.out]
          rintro e w7 ⟨rfl, hb7⟩
          have k7 := k6.trans (hb7.mono k6.size)
          go_wp2_with fail
          refine (known_any w7).mono ?_
          rintro e w8 ⟨rfl, hb8⟩
          go_wp2_with fail
          go_ret
          exact Ans.mk rfl (hb2.trans ((k7.trans (hb8.mono k7.size)).mono hb2.size))
  · have hN := new_wrong A n cap w2 _ (right_tree A n cap _ x k w2 hr hc (by omega) hok rfl) h0
    have hRr := fun w' (h : RdN w' w'.heap.size A n (x :: k.flat)) => rright_tree A n cap _ x k w' h hc (by omega) hok rfl
    have hLn := fun w' (h : RdN w' w'.heap.size A n (x :: k.flat)) => rLength_tree A n cap _ x k w' h hc (by omega) hok rfl
    unfold Len at hLn
    generalize lv (F.tick x k.len) = V at hLn
    generalize lb (F.tick x k.len) = V2 at hLn
    generalize rt n (k.dep + 1) (F.tick x k.len) = R at h0 hRr
    have hne : (R != 0) = true := bne_iff_ne.2 h0
    have hne2 : (R == 0) = false := beq_eq_false_iff_ne.2 h0
    have HN := Lib.hid hN
    have HRR := Lib.hid hRr
    have HLN := Lib.hid hLn
    clear hN hRr hok h0 hLn
    go_wp2_with fail
    refine HN.out.mono ?_
    rintro e w3 ⟨rfl, hb3⟩
    have k3 := hb2.trans (hb3.mono hb2.size)
    have hr3 := hr.on hb3
    go_wp2_with fail
    refine (HLN.out w3 hr3).mono ?_
    rintro e w3' ⟨rfl, hb3'⟩
    have k3' := k3.trans (hb3'.mono k3.size)
    have hr3' := hr3.on hb3'
    go_wp2_with fail
    refine (HRR.out w3' hr3').mono ?_
    rintro e w4 ⟨rfl, hb4⟩
    have k4 := k3'.trans (hb4.mono k3'.size)
    go_wp2_with fail
    refine (known_any w4).mono ?_
    rintro e w5 ⟨rfl, hb5⟩
    go_wp2_with fail
    go_ret
    exact Ans.mk rfl (k4.trans (hb5.mono k4.size))

set_option maxRecDepth 100000 in
theorem lifted (os : Os) (started : os.Started) (H : Type) (enc : TypeId × Value → H) :
    ReturnsInHanded {} Try.checked os 6 .any (Rows.cursorTicksSpec.pre6 enc Try.prog Try.f6 Rows.cursorTicksRow.domain false) (Rows.cursorTicksSpec.post enc Try.prog Try.f6 false true false false) := by
  refine returnsInHanded_of_change_sized (C := Try.checked) own started (by kernel_rfl) Try.func6
    (ChangeSpec.witness6 (enc := enc) (C := Try.checked) false ⟨#[], #[.slice none 0 0, .int .i64 0], []⟩ 8 (by kernel_rfl) (by kernel_rfl) (by kernel_rfl) (by kernel_rfl)) ?_
  intro W base args ds gs before hval0 hW hcnd hsz0 _
  have hval : ∀ (j : Nat) t v, Try.f6.params[j]? = some t → args[j]? = some v → Value.okWide Try.prog W .any base t v := hval0
  have hW' := hW
  obtain ⟨p, q, hA0, hV, rfl, hfz, hnd⟩ := hW
  have hA : DataW.TrodAll enc Try.prog W 0 (fun _ => true) true Try.f6.params.toList args.toList ds p := hA0
  have hsz : (DataW.weightsEach Try.prog (Try.f6.params.toList ++ Rows.cursorTicksSpec.plain.varTypes Try.prog) (ds ++ gs)).all (· ≤ reachBytes) = true := hsz0
  rw [Try.params6] at hA hval hsz
  obtain ⟨v0, vs0, d0, ds0, p0, q0, hargs, rfl, rfl, h0, r0⟩ := trodAll_cons hA
  obtain ⟨v1, vs1, d1, ds1, p1, q1, rfl, rfl, rfl, h1, r1⟩ := trodAll_cons r0
  obtain ⟨rfl, rfl, rfl⟩ := trodAll_nil r1
  obtain rfl : args = #[v0, v1] := by cases args; simp_all
  obtain ⟨rfl, rfl⟩ := trodVars_none hV
  obtain ⟨A0, n0, k0, rfl⟩ := okWide_slice Try.underlying24 (hval 0 24 v0 rfl rfl)
  have t0 := h0
  have lt0 : ∀ x ∈ p0, x.block < W.heap.size := by obtain ⟨m, hm⟩ := t0; exact DataW.trod_lt m _ _ _ hm
  obtain ⟨f0, u0, c0, b0, w0⟩ := ints_sized h0 (fun elems spare e => sized_slice hsz (j := 0) (t := 24) (e := 3) rfl (by rw [← e]; rfl) Try.underlying24)
  obtain ⟨a1, rfl, rfl, rfl, w1⟩ := open_int Try.underlying3 (hval 1 3 v1 rfl rfl) h1
  clear hA0 hval0
  refine (walk A0 n0 k0 f0 a1 W u0 c0 b0 w0 w1).mono fun e W' ⟨he, bel⟩ => ?_
  subst he
  exact ⟨_, rfl, _, _, _, [], _, [], hW', trodAll_mk1 (shut_bool Try.underlying4 _), (trodAll_cons_mk (Below.trod laidOut (by kernel_rfl) (of_decide_eq_true (by kernel_rfl)) t0 bel lt0) (trodAll_cons_mk (shut_int Try.underlying3 w1) trodAll_mk0)), rfl, bel.frame _, fun h => by cases h⟩

theorem proved : Rows.CursorTicksSaid :=
  OpenClaim.holds_of_wide 6 Try.f6 rfl rfl rfl rfl rfl rfl rfl ⟨rfl, rfl, rfl, rfl, rfl⟩ rfl rfl rfl rfl rfl (by kernel_rfl) Try.func6 (by kernel_rfl)
    (of_decide_eq_true (by kernel_rfl)) (by unfold Func.isWrapper; first | (rw [if_pos (by decide +kernel)]; kernel_rfl) | (rw [if_neg (by decide +kernel)]; exact ⟨rfl, rfl⟩))
    (fun os started H enc _ => lifted os started H enc)

end Go.Proofs.Ytgdkbeleapbffaa.cursorTicks
