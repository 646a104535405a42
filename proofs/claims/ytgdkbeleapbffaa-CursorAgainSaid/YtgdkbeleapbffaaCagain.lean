/- CursorAgain: for any tape of numbers, depth and number of ticks: behind a Reset all of the table comes again; all its leaves together are the table's length. -/
import Derived.Test.YtgdkbeleapbffaaFrameN
import Derived.Test.YtgdkbeleapbffaaAny
namespace Go.Proofs.Ytgdkbeleapbffaa.cursorAgain
open Go.ChangeShapes Go.WideShapes Go.ChangeAt Go.RowKit Tab
set_option linter.unusedSimpArgs false
set_option linter.unusedVariables false

set_option maxRecDepth 100000 in
set_option maxHeartbeats 4000000 in
theorem walk (A0 : Option Addr) (n0 k0 : Nat) (f0 : Nat → Int) (a1 : Int) (a2 : Int) (w : World) (r0 : RdC w w.heap.size A0 n0 fun j => .int .i64 (f0 j)) (c0 : n0 ≤ k0) (b0 : k0 ≤ 140737488351232) (w0 : ∀ j, j < n0 → (Lit.int .i64 (f0 j)).wf = true) (w1 : (Lit.int .i64 a1).wf = true) (w2 : (Lit.int .i64 a2).wf = true) :
    Calls Try.prog 5 #[.slice A0 n0 k0, .int .i64 a1, .int .i64 a2] w (Ans (.bool true) w) := by
  have R0 := Lib.hid r0
  clear r0 w0 w1 w2
  go_enter Try.func5, Try.ntmps5
  go_wp2_with fail
  refine (within_at a1 4 4 _ rfl (by omega)).mono ?_
  rintro e w1 ⟨d, hd4, rfl, rfl⟩
  go_wp2_with fail
  refine (table_box A0 n0 k0 f0 w 4 (d : Int) 4 d rfl rfl (by omega) (by omega) (by omega) R0.out (by omega)).mono ?_
  rintro e w2 ⟨x, k, A, n, cap, rfl, hok, hr, hc, hsz, hb2⟩
  have hn : n ≤ 3125 := by
    have h1 := hr.len
    simp only [List.length_cons, F.flat_length] at h1
    have h2 : 5 ^ (d + 1) ≤ 3125 := Nat.le_trans (Nat.pow_le_pow_right (by omega) (show d + 1 ≤ 5 by omega)) (by decide)
    omega
  clear hsz R0
  rcases rt_cases n (k.dep + 1) (F.tick x k.len) with ⟨_, h1, h2, h3⟩ | h0
  · have hN := new_right A n cap x k w2 hr hc hok h1 h2 h3
    have hLn : ∀ w', RdN w' w'.heap.size A n (x :: k.flat) → Calls Try.prog 13 #[.slice A n cap] w' fun e w'' => e = .returned (.tuple #[.int .i64 ((F.tick x k.len : Nat) : Int), .bool true]) ∧ Below w'.heap.size w' w'' := fun w' h => by
      have := rLength_tree A n cap _ x k w' h hc (by omega) hok rfl
      unfold Len lv lb at this
      rwa [if_pos h3, decide_eq_true h3] at this
    have hRs := fun (b : Nat) (A2 : Option Addr) (n2 c2 : Nat) (td : List Rn) (tk gn : Nat) w (h : Cur w b A2 n2 c2 (x :: k.flat) td tk gn) => reset_cur b A2 n2 c2 x k td tk gn w h hok h2 (by rw [one_ticks, lvs_ticks]; omega)
    have hpos : ∀ r ∈ one x k.lvs, 1 ≤ r.n := fun r hr => lvs_pos hok r (by simpa [F.lvs] using hr)
    have hT : ticks (one x k.lvs) = F.tick x k.len := by rw [one_ticks, lvs_ticks]
    have hq := length_le_ticks hpos
    unfold Born at hN
    generalize x :: k.flat = l at *
    generalize one x k.lvs = L at *
    generalize F.tick x k.len = T at *
    have HQ : Hid (L.length ≤ 4096) := Lib.hid (by omega)
    have HT := Lib.hid hT
    have HN := Lib.hid hN
    have HLN := Lib.hid hLn
    have HRS := Lib.hid hRs
    have HR := Lib.hid hr
    clear hN hLn hRs hpos hT hq hok h1 h2 hr
    go_wp2_with fail
    refine HN.out.mono ?_
    rintro e w3 ⟨b, A2, n2, c2, rfl, hC, hbb, hb3⟩
    have k3 := hb3
    have HC := Lib.hid hC
    clear hC HN hb3
    go_wp2_with fail
    go_loopw [9] (fun s wr => ∃ (i : Nat) (td : List Rn) (tk gn : Nat), i ≤ 50 ∧ s = .int .i64 i ∧ Cur wr b A2 n2 c2 l td tk gn ∧ Below w2.heap.size w2 wr ∧ w3.grownBy wr (some b)) (fun s _ => 51 - (intOf s).toNat)
    case atStart => exact ⟨0, L, 0, 0, by omega, rfl, HC.out, k3, gb_refl _ _⟩
    case round =>
      obtain ⟨i, td, tk, gn, hi, rfl, hC, hb, hg⟩ := hrel
      have HCC := Lib.hid hC
      have HG := Lib.hid hg
      clear hC hg
      go_wp2_with fail
      refine (within_at a2 50 50 _ rfl (by omega)).mono ?_
      rintro e w4 ⟨m, hm, rfl, rfl⟩
      by_cases hlt : i < m
      · cases td with
        | nil =>
          go_wp2_with fail
          refine (tick_end b A2 n2 c2 l tk gn wr HCC.out).mono ?_
          rintro e w5 ⟨rfl, hb5⟩
          go_wp2_with fail
          go_roundw
          case rel => exact ⟨i + 1, [], tk, gn, by omega, by go_num, HCC.out.below hb5, hb.trans (hb5.mono hb.size), gb_bl HG.out hb5⟩
          case measure => simp [intOf]; omega
        | cons r s =>
          go_wp2_with fail
          refine (tick_some b A2 n2 c2 l r s tk gn wr HCC.out).mono ?_
          rintro e w5 ⟨rfl, hC5, hG5⟩
          have HC5 := Lib.hid hC5
          have hk5 := below_gb hb hG5 hbb hb.size
          have hg5 := gb_trans HG.out hG5
          clear hC5 hG5
          go_wp2_with fail
          go_roundw
          case rel => exact ⟨i + 1, _, _, gn + 1, by omega, by go_num, HC5.out, hk5, hg5⟩
          case measure => simp [intOf]; omega
      · have hge : m ≤ i := by omega
        go_wp2_with fail
        refine (HRS.out b A2 n2 c2 td tk gn wr HCC.out).mono ?_
        rintro e w5 ⟨rfl, hC5, hG5⟩
        have k5 := below_gb hb hG5 hbb hb.size
        have hg5 := gb_trans HG.out hG5
        have HC5 := Lib.hid hC5
        have HG5 := Lib.hid hg5
        clear hC5 hG5 hg5 HCC HG HC hb
        go_wp2_with fail
        obtain ⟨M, hM⟩ : ∃ M : Nat, (4096 : Int) = (M : Int) := ⟨4096, rfl⟩
        have hM1 : 4096 ≤ M := by omega
        have hM2 : M ≤ 4096 := by omega
        rw [hM]
        clear hM
        go_loopw [10, 11] (fun sm s wr => ∃ i gn : Nat, i ≤ L.length ∧ s = .int .i64 i ∧ sm = .int .i64 gn ∧ gn = ticks (L.take i) ∧ Cur wr b A2 n2 c2 l (L.drop i) 0 gn ∧ Below w2.heap.size w2 wr ∧ w3.grownBy wr (some b)) (fun _ s _ => 4097 - (intOf s).toNat)
        case atStart => exact ⟨0, 0, by omega, rfl, rfl, rfl, HC5.out, k5, HG5.out⟩
        case round =>
          obtain ⟨i, gn, hi, rfl, rfl, hgn, hC, hb, hg⟩ := hrel
          have hq := HQ.out
          have hiM : i ≤ M := by omega
          have htk := take_ticks L i
          have htt := HT.out
          have hgn4 : gn ≤ 4096 := by omega
          have HCC := Lib.hid hC
          have HG := Lib.hid hg
          have HGN := Lib.hid hgn
          clear hC hg hgn htk htt
          by_cases hlt : i < L.length
          · obtain ⟨r, hr⟩ : ∃ r, L[i]? = some r := ⟨_, List.getElem?_eq_getElem hlt⟩
            have hC := HCC.out
            rw [drop_more hr] at hC
            have hNX := next_some b A2 n2 c2 l r (L.drop (i + 1)) 0 gn wr hC
            simp only [Nat.sub_zero] at hNX
            have hmore := take_more hr
            have htk := take_ticks L (i + 1)
            have htt := HT.out
            have hr4 : gn + r.n ≤ 4096 := by have := HGN.out; omega
            have HNX := Lib.hid hNX
            have HM : Hid (gn + r.n = ticks (L.take (i + 1))) := Lib.hid (by have := HGN.out; omega)
            clear hC hNX hmore htk htt hr
            go_wp2_with fail
            refine HNX.out.mono ?_
            rintro e w6 ⟨rfl, hC6, hG6⟩
            have k6 := below_gb hb hG6 hbb hb.size
            have hl6 := bl1 w6 (.cells #[.int .i64 r.p, .int .i64 (r.n : Int)] 48)
            have HC7 := Lib.hid (hC6.below hl6)
            have HG7 := Lib.hid (gb_bl (gb_trans HG.out hG6) hl6)
            have k7 := k6.trans (hl6.mono k6.size)
            clear hC6 hG6 k6 hl6
            go_wp2_with fail
            go_roundw
            case rel => exact ⟨i + 1, gn + r.n, by omega, by go_num, by go_num, HM.out, HC7.out, k7, HG7.out⟩
            case measure => simp [intOf]; omega
          · have hdr : L.drop i = [] := List.drop_eq_nil_of_le (by omega)
            have hC := HCC.out
            rw [hdr] at hC
            have hgT : gn = T := by rw [HGN.out, ← HT.out, List.take_of_length_le (by omega)]
            subst hgT
            have HC6 := Lib.hid hC
            clear hdr hC
            go_wp2_with fail
            refine (next_end b A2 n2 c2 l 0 gn wr HC6.out).mono ?_
            rintro e w6 ⟨rfl, hb6⟩
            have hl6 := bl1 w6 (.cells #[.int .i64 0, .int .i64 0] 48)
            have j6 := hb6.trans (hl6.mono hb6.size)
            have k6 := hb.trans (j6.mono hb.size)
            have HC7 := Lib.hid (HC6.out.below j6)
            have hrow : RdN (w6.alloc (.cells #[.int .i64 0, .int .i64 0] 48)) (w6.alloc (.cells #[.int .i64 0, .int .i64 0] 48)).heap.size A n l := HR.out.on k6
            have HROW := Lib.hid hrow
            clear hrow hl6 hb6
            go_wp2_with fail
            refine (HLN.out _ HROW.out).mono ?_
            rintro e w8 ⟨rfl, hb8⟩
            have k8 := k6.trans (hb8.mono k6.size)
            have HC8 := Lib.hid (HC7.out.below hb8)
            clear hb8
            go_wp2_with fail
            refine (at_any b A2 n2 c2 l [] 0 gn w8 HC8.out).mono ?_
            rintro e w9 ⟨rfl, rfl⟩
            go_wp2_with fail
            refine (known_any _).mono ?_
            rintro e w10 ⟨rfl, hb10⟩
            go_wp2_with fail
            go_ret
            exact Ans.mk rfl (hb2.trans ((k8.trans (hb10.mono k8.size)).mono hb2.size))
  · have hN := new_wrong A n cap w2 _ (right_tree A n cap _ x k w2 hr hc (by omega) hok rfl) h0
    have hRr := fun w' (h : RdN w' w'.heap.size A n (x :: k.flat)) => rright_tree A n cap _ x k w' h hc (by omega) hok rfl
    generalize rt n (k.dep + 1) (F.tick x k.len) = R at h0 hRr
    have hne : (R != 0) = true := bne_iff_ne.2 h0
    have hne2 : (R == 0) = false := beq_eq_false_iff_ne.2 h0
    have HN := Lib.hid hN
    have HRR := Lib.hid hRr
    clear hN hRr hok h0
    go_wp2_with fail
    refine HN.out.mono ?_
    rintro e w3 ⟨rfl, hb3⟩
    have k3 := hb2.trans (hb3.mono hb2.size)
    have hr3 := hr.on hb3
    go_wp2_with fail
    refine (HRR.out w3 hr3).mono ?_
    rintro e w4 ⟨rfl, hb4⟩
    have k4 := k3.trans (hb4.mono k3.size)
    go_wp2_with fail
    refine (known_any w4).mono ?_
    rintro e w5 ⟨rfl, hb5⟩
    go_wp2_with fail
    go_ret
    exact Ans.mk rfl (k4.trans (hb5.mono k4.size))

set_option maxRecDepth 100000 in
theorem lifted (os : Os) (started : os.Started) (H : Type) (enc : TypeId × Value → H) :
    ReturnsInHanded {} Try.checked os 5 .any (Rows.cursorAgainSpec.pre6 enc Try.prog Try.f5 Rows.cursorAgainRow.domain false) (Rows.cursorAgainSpec.post enc Try.prog Try.f5 false true false false) := by
  refine returnsInHanded_of_change_sized (C := Try.checked) own started (by kernel_rfl) Try.func5
    (ChangeSpec.witness6 (enc := enc) (C := Try.checked) false ⟨#[], #[.slice none 0 0, .int .i64 0, .int .i64 0], []⟩ 8 (by kernel_rfl) (by kernel_rfl) (by kernel_rfl) (by kernel_rfl)) ?_
  intro W base args ds gs before hval0 hW hcnd hsz0 _
  have hval : ∀ (j : Nat) t v, Try.f5.params[j]? = some t → args[j]? = some v → Value.okWide Try.prog W .any base t v := hval0
  have hW' := hW
  obtain ⟨p, q, hA0, hV, rfl, hfz, hnd⟩ := hW
  have hA : DataW.TrodAll enc Try.prog W 0 (fun _ => true) true Try.f5.params.toList args.toList ds p := hA0
  have hsz : (DataW.weightsEach Try.prog (Try.f5.params.toList ++ Rows.cursorAgainSpec.plain.varTypes Try.prog) (ds ++ gs)).all (· ≤ reachBytes) = true := hsz0
  rw [Try.params5] at hA hval hsz
  obtain ⟨v0, vs0, d0, ds0, p0, q0, hargs, rfl, rfl, h0, r0⟩ := trodAll_cons hA
  obtain ⟨v1, vs1, d1, ds1, p1, q1, rfl, rfl, rfl, h1, r1⟩ := trodAll_cons r0
  obtain ⟨v2, vs2, d2, ds2, p2, q2, rfl, rfl, rfl, h2, r2⟩ := trodAll_cons r1
  obtain ⟨rfl, rfl, rfl⟩ := trodAll_nil r2
  obtain rfl : args = #[v0, v1, v2] := by cases args; simp_all
  obtain ⟨rfl, rfl⟩ := trodVars_none hV
  obtain ⟨A0, n0, k0, rfl⟩ := okWide_slice Try.underlying24 (hval 0 24 v0 rfl rfl)
  have t0 := h0
  have lt0 : ∀ x ∈ p0, x.block < W.heap.size := by obtain ⟨m, hm⟩ := t0; exact DataW.trod_lt m _ _ _ hm
  obtain ⟨f0, u0, c0, b0, w0⟩ := ints_sized h0 (fun elems spare e => sized_slice hsz (j := 0) (t := 24) (e := 3) rfl (by rw [← e]; rfl) Try.underlying24)
  obtain ⟨a1, rfl, rfl, rfl, w1⟩ := open_int Try.underlying3 (hval 1 3 v1 rfl rfl) h1
  obtain ⟨a2, rfl, rfl, rfl, w2⟩ := open_int Try.underlying3 (hval 2 3 v2 rfl rfl) h2
  clear hA0 hval0
  refine (walk A0 n0 k0 f0 a1 a2 W u0 c0 b0 w0 w1 w2).mono fun e W' ⟨he, bel⟩ => ?_
  subst he
  exact ⟨_, rfl, _, _, _, [], _, [], hW', trodAll_mk1 (shut_bool Try.underlying4 _), (trodAll_cons_mk (Below.trod laidOut (by kernel_rfl) (of_decide_eq_true (by kernel_rfl)) t0 bel lt0) (trodAll_cons_mk (shut_int Try.underlying3 w1) (trodAll_cons_mk (shut_int Try.underlying3 w2) trodAll_mk0))), rfl, bel.frame _, fun h => by cases h⟩

theorem proved : Rows.CursorAgainSaid :=
  OpenClaim.holds_of_wide 5 Try.f5 rfl rfl rfl rfl rfl rfl rfl ⟨rfl, rfl, rfl, rfl, rfl⟩ rfl rfl rfl rfl rfl (by kernel_rfl) Try.func5 (by kernel_rfl)
    (of_decide_eq_true (by kernel_rfl)) (by unfold Func.isWrapper; first | (rw [if_pos (by decide +kernel)]; kernel_rfl) | (rw [if_neg (by decide +kernel)]; exact ⟨rfl, rfl⟩))
    (fun os started H enc _ => lifted os started H enc)

end Go.Proofs.Ytgdkbeleapbffaa.cursorAgain
