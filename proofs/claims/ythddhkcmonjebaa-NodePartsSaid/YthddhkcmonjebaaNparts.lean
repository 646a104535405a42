/- NodeParts: for any tape of numbers and any depth, a table's length is the sum of its children's, or so many times; its sizes too; each child goes less deep. -/
import Derived.Test.YthddhkcmonjebaaFrameN
import Derived.Test.YthddhkcmonjebaaTable
import Derived.Test.YthddhkcmonjebaaKnown
namespace Go.Proofs.Ythddhkcmonjebaa.nodeParts
open Go.ChangeShapes Go.WideShapes Go.ChangeAt Go.RowKit Tab
set_option linter.unusedSimpArgs false
set_option linter.unusedVariables false

theorem within_n (n : Int) (m : Nat) (M : Int) (w : World) (hM : M = (m : Int)) (hm : m < 4611686018427387904) :
    Calls Try.prog 12 #[.int .i64 n, .int .i64 0, .int .i64 M] w (Between m w) := by
  subst hM
  exact within_any n m w hm
theorem rt_zero {n D T : Nat} (h : rt n D T = 0) : n ≤ 128 ∧ D ≤ 16 ∧ T ≤ 4096 := by
  unfold rt at h
  split at h
  · omega
  · split at h
    · omega
    · split at h <;> omega
theorem tick_ge {x : Nd} {k : F} (h : (F.cons x k .nil).ok) : k.len ≤ F.tick x k.len := by
  have h1 := fine_one h.1
  have h2 := h.2.1
  unfold F.tick
  unfold kn at h2
  split
  · exact Nat.le_refl _
  · split
    · have : k.len * 1 ≤ k.len * x.n.toNat := Nat.mul_le_mul_left _ (by omega)
      omega
    · rename_i h3 h4
      rw [if_neg h3, if_neg h4] at h2
      rw [F.cnt_zero h2]
      simp [F.len]

set_option maxRecDepth 100000 in
set_option maxHeartbeats 4000000 in
theorem walk (A0 : Option Addr) (n0 k0 : Nat) (f0 : Nat → Int) (a1 : Int) (w : World) (r0 : RdC w w.heap.size A0 n0 fun j => .int .i64 (f0 j)) (c0 : n0 ≤ k0) (b0 : k0 ≤ 140737488351232) (w0 : ∀ j, j < n0 → (Lit.int .i64 (f0 j)).wf = true) (w1 : (Lit.int .i64 a1).wf = true) :
    Calls Try.prog 4 #[.slice A0 n0 k0, .int .i64 a1] w (Ans (.bool true) w) := by
  have R0 := Lib.hid r0
  clear r0 w1 w0
  go_enter Try.func4, Try.ntmps4
  go_wp2_with fail
  refine (within_n a1 4 _ _ rfl (by omega)).mono ?_
  rintro e wq ⟨d, hd, rfl, rfl⟩
  go_wp2_with fail
  refine (table_box A0 n0 k0 f0 w 4 _ 4 d rfl rfl (by omega) (by omega) (by omega) R0.out (by omega)).mono ?_
  rintro e w2 ⟨x, k, A, n, c, rfl, hok, hr, hc, hsz, hb2⟩
  have hX : 5 ^ (d + 1) ≤ 5 ^ 5 := Nat.pow_le_pow_right (by omega) (by omega)
  have hsz' : k.sz + 1 ≤ 3125 := Nat.le_trans hsz hX
  have hlen := hr.len
  have hlen' := hlen
  simp only [List.length_cons, F.flat_length] at hlen'
  have hn : n ≤ 3125 := by omega
  clear hsz hX
  have hRt := right_tree A n c _ x k w2 hr hc (by omega) hok rfl
  have HRr := Lib.hid fun w' (h : RdN w' w'.heap.size A n (x :: k.flat)) => rright_tree A n c _ x k w' h hc (by omega) hok rfl
  by_cases hz : rt n (k.dep + 1) (F.tick x k.len) = 0
  · obtain ⟨hz1, hz2, hz3⟩ := rt_zero hz
    rw [hz] at hRt
    have hge := tick_ge hok
    have hTl := fun w' (h : RdN w' w'.heap.size A n (x :: k.flat)) => length_tree A n c _ x k w' h hc (by omega) hok rfl
    have hDl := fun w' (h : RdN w' w'.heap.size A n (x :: k.flat)) => depth_tree A n c _ x k w' h hc (by omega) hok rfl
    have hwl : wholeB (x :: k.flat) = true := tree_whole hok
    have hS0 := (whole_size hwl).2
    have hd0 : (x :: k.flat).drop 0 = (F.cons x k .nil).flat ++ [] := by simp [F.flat]
    obtain ⟨hkd, hfit, hd1, hx0⟩ := kids_at (l := x :: k.flat) (p := 0) hok hd0
    have hpos := fun j hj => pos_dr hok.2.2.1 hd1 (by simp) j hj
    have hlv : lv (F.tick x k.len) = (F.tick x k.len : Int) := if_pos hz3
    have hlb : lb (F.tick x k.len) = true := decide_eq_true hz3
    unfold Len at hTl
    rw [hlv, hlb] at hTl
    have htk : ∃ T, F.tick x k.len = T := ⟨_, rfl⟩
    obtain ⟨T, hT⟩ := htk
    rw [hT] at hTl hz3 hge
    have hkn := hok.2.1
    have hfn := hok.1
    obtain ⟨xk, xp, xn⟩ := x
    have HT := Lib.hid hT
    have HKN := Lib.hid hkn
    have HFN := Lib.hid hfn
    have HTL := Lib.hid hTl
    have HDL := Lib.hid hDl
    have HKD := Lib.hid hkd
    have HPOS := Lib.hid hpos
    have HRT := Lib.hid hRt
    have HOK := Lib.hid hok.2.2.1
    generalize hLd : (⟨xk, xp, xn⟩ : Nd) :: k.flat = L at hr hlen hS0 HTL HDL HKD HPOS HRT hx0
    rw [hlen] at hS0
    have HS0 := Lib.hid hS0
    have HLEN := Lib.hid hlen
    have HX0 := Lib.hid hx0
    have hsz1 : 1 + k.sz = n := by omega
    have HSZ := Lib.hid hsz1
    clear hRt hTl hDl hwl hS0 hd0 hkd hd1 hpos hlv hlb hT hkn hfn hok hlen hlen' hz hLd HRr hx0 hsz1 hfit
    generalize hmd : k.cnt = m at HPOS HKD
    have HM := Lib.hid hmd
    have hm : m ≤ 3125 := by have := F.cnt_le_sz k; omega
    clear hmd
    go_wp2_with fail
    refine HRT.out.mono ?_
    rintro e w3 ⟨rfl, hb3⟩
    have k3 := hb2.trans (hb3.mono hb2.size)
    have r3 := hr.on hb3
    go_wp2_with fail
    refine (kids_any A n c L 0 w3 r3 hc (by omega)).mono ?_
    rw [show kids L 0 = plc L (0 + 1) m from HKD.out]
    rintro e w4 ⟨Ak, nk, ck, rfl, hrk, hck, hb4⟩
    have hnk : nk = m := by have := hrk.len; simp [plc] at this; omega
    subst hnk
    have k4 := k3.trans (hb4.mono k3.size)
    have r4 := r3.on hb4
    clear hb3 hb4 hr r3 HRT HKD
    go_wp2_with fail
    go_loopw [6, 7, 33] (fun a b s wr => ∃ (i z sm : Nat), i ≤ nk ∧ s = .int .i64 i ∧ a = .int .i64 z ∧ b = .int .i64 sm ∧ z + (F.dr i k).sz = 1 + k.sz ∧ sm + (F.dr i k).len = k.len ∧ Below w4.heap.size w4 wr) (fun _ _ s _ => nk - (intOf s).toNat)
    case atStart => exact ⟨0, 1, 0, by omega, rfl, rfl, rfl, rfl, by simp [F.dr], Below.refl _ _⟩
    case round =>
      obtain ⟨i, z, sm, hi, rfl, rfl, rfl, hz, hs, hb⟩ := hrel
      have hzn : z ≤ 3125 := by have := HSZ.out; omega
      have hsn : sm ≤ 4096 := by omega
      have HZ := Lib.hid hz
      have HS := Lib.hid hs
      have rr := r4.on hb
      clear hz hs
      by_cases hlt : i < nk
      · obtain ⟨hd, hsz2, hp1, hp2⟩ := HPOS.out i (by omega)
        obtain ⟨y, ky, r', ed⟩ := dr_cons (f := k) (j := i) (by have := HM.out; omega)
        have hok' := dr_ok HOK.out i
        have hdl := dr_dep_le k i
        have ed2 := dr_succ ed
        have hz' := HZ.out
        have hs' := HS.out
        rw [ed] at hd hsz2 hok' hdl hz' hs'
        simp only [F.sz, F.len, F.dep] at hsz2 hz' hs' hdl
        have hgy := tick_ge (x := y) (k := ky) ⟨hok'.1, hok'.2.1, hok'.2.2.1, trivial⟩
        have hoky : (F.cons y ky .nil).ok := ⟨hok'.1, hok'.2.1, hok'.2.2.1, trivial⟩
        have hsy : size L (pos L (0 + 1) i : Nat) = 1 + ky.sz := size_at hok' hd
        have hget := plc_get L (0 + 1) nk i hlt
        have hLn := HSZ.out
        have hPn : pos L (0 + 1) i + (1 + ky.sz) ≤ n := by omega
        have htake : (L.drop (pos L (0 + 1) i)).take (1 + ky.sz) = y :: ky.flat := by
          rw [hd]
          simp only [F.flat, List.cons_append, List.append_assoc]
          rw [show 1 + ky.sz = ky.sz + 1 by omega, List.take_succ_cons, List.take_left' (F.flat_length ky)]
        generalize pos L (0 + 1) i = P at hp1 hget hsy hPn htake hsz2
        obtain ⟨ad, x', rfl, _⟩ := rr.at_ (i := 0) (by omega)
        have hsub : RdN wr wr.heap.size (some (ad.add (P * 3))) (1 + ky.sz) (y :: ky.flat) := by
          have := (rr.back P).front (1 + ky.sz) (by omega)
          rwa [htake] at this
        have hTy := fun w' (h : RdN w' w'.heap.size (some (ad.add (P * 3))) (1 + ky.sz) (y :: ky.flat)) => length_tree _ (1 + ky.sz) (c - P) _ y ky w' h (by omega) (by omega) hoky rfl
        have hDy := fun w' (h : RdN w' w'.heap.size (some (ad.add (P * 3))) (1 + ky.sz) (y :: ky.flat)) => depth_tree _ (1 + ky.sz) (c - P) _ y ky w' h (by omega) (by omega) hoky rfl
        have hlv : lv (F.tick y ky.len) = (F.tick y ky.len : Int) := if_pos (by omega)
        have hlb : lb (F.tick y ky.len) = true := decide_eq_true (by omega)
        unfold Len at hTy
        rw [hlv, hlb] at hTy
        have HTY := Lib.hid hTy
        have HDY := Lib.hid hDy
        have HED := Lib.hid ed2
        have HZ' := Lib.hid hz'
        have HS' := Lib.hid hs'
        have hty : F.tick y ky.len ≤ 4096 := by omega
        have hdy : ky.dep + 1 ≤ k.dep := by omega
        clear hTy hDy ed ed2 hlv hlb hz' hs' hok' hoky hd htake hsz2 hLn hgy
        generalize F.tick y ky.len = Ty at HTY HS' hty
        generalize ky.dep + 1 = Dy at HDY hdy
        generalize hq : 1 + ky.sz = q at HTY HDY hsy hPn hsub HZ'
        have hq1 : 1 ≤ q := by omega
        have HSY := Lib.hid hsy
        have hkd2 : k.dep + 1 ≤ 16 := hz2
        generalize hKD : k.dep = kd at HDL hdy hkd2
        clear hq hsy hdl hKD
        obtain ⟨adk, z0, rfl, _, hz0, hcell⟩ := (hrk.on hb).at_ hlt
        rw [hget] at hz0
        injection hz0 with hz0
        subst hz0
        have hcP : ¬ c = P := by omega
        clear hget
        go_wp2_with fail
        refine (size_any _ n c L (P : Int) wr rr hc (by omega)).mono ?_
        rw [HSY.out]
        rintro e w5 ⟨rfl, hb5⟩
        have k5 := hb.trans (hb5.mono hb.size)
        go_wp2_with fail
        refine (HTY.out w5 (hsub.on hb5)).mono ?_
        rintro e w6 ⟨rfl, hb6⟩
        have t6 := hb5.trans (hb6.mono hb5.size)
        go_wp2_with fail
        refine (HDY.out w6 (hsub.on t6)).mono ?_
        rintro e w7 ⟨rfl, hb7⟩
        have t7 := t6.trans (hb7.mono t6.size)
        go_wp2_with fail
        refine (HDL.out w7 (rr.on t7)).mono ?_
        rintro e w8 ⟨rfl, hb8⟩
        have t8 := t7.trans (hb8.mono t7.size)
        have hdd : ¬ (kd + 1 ≤ Dy) := by omega
        go_wp2_with fail
        go_roundw
        case rel => exact ⟨i + 1, z + q, sm + Ty, by omega, by go_num, by go_num, by go_num, by rw [HED.out]; have := HZ'.out; omega, by rw [HED.out]; have := HS'.out; omega, hb.trans (t8.mono hb.size)⟩
        case measure => simp [intOf]; omega
      · have hge2 : nk ≤ i := by omega
        have e2 : F.dr i k = .nil := by rw [show i = k.cnt by have := HM.out; omega]; exact dr_all k
        have hz' := HZ.out
        have hs' := HS.out
        rw [e2] at hz' hs'
        simp only [F.sz, F.len, Nat.add_zero] at hz' hs'
        have hzn' : z = n := by have := HSZ.out; omega
        obtain rfl := hzn'
        have HSM := Lib.hid hs'
        have hn1 : 1 ≤ z := by omega
        clear hz' hs' e2 HZ HS HPOS
        have k5 := k4.trans (hb.mono k4.size)
        go_wp2_with fail
        refine (HTL.out wr rr).mono ?_
        rintro e w5 ⟨rfl, hb5⟩
        have k6 := k5.trans (hb5.mono k5.size)
        have r5 := rr.on hb5
        obtain ⟨ad, x', rfl, _, hx', _, q0, q1, q2⟩ := r5.at_ (i := 0) (by omega)
        rw [HX0.out] at hx'
        injection hx' with hx'
        subst hx'
        dsimp only at q0 q1 q2
        rw [Nat.zero_mul, show ad.add 0 = ad from rfl] at q0 q1 q2
        by_cases h3 : xk = 3
        · subst h3
          have e3 : sm = T := by rw [HSM.out, ← HT.out]; rfl
          subst e3
          go_wp2_with fail
          refine (size_any _ z c L 0 w5 r5 hc (by omega)).mono ?_
          rw [HS0.out]
          rintro e w6 ⟨rfl, hb6⟩
          have k7 := k6.trans (hb6.mono k6.size)
          go_wp2_with fail
          refine (known_any w6).mono ?_
          rintro e w7 ⟨rfl, hb7⟩
          have k8 := k7.trans (hb7.mono k7.size)
          go_wp2_with fail
          go_ret
          exact Ans.mk rfl k8
        · by_cases h4 : xk = 4
          · subst h4
            have hx1 : 1 ≤ xn := fine_one HFN.out
            obtain ⟨N, rfl⟩ := Int.eq_ofNat_of_zero_le (show 0 ≤ xn by omega)
            have e3 : sm * N = T := by rw [HSM.out, ← HT.out]; rfl
            have e4 : (sm : Int) * (N : Int) = (T : Int) := by rw [← e3, Int.natCast_mul]
            have hpr : 0 ≤ (sm : Int) * (N : Int) := by omega
            have hpr2 : (sm : Int) * (N : Int) ≤ 4096 := by omega
            have e5 : ((T : Int) == (sm : Int) * (N : Int)) = true := beq_iff_eq.2 e4.symm
            clear e3 e4
            go_wp2_with fail
            refine (size_any _ z c L 0 w5 r5 hc (by omega)).mono ?_
            rw [HS0.out]
            rintro e w6 ⟨rfl, hb6⟩
            have k7 := k6.trans (hb6.mono k6.size)
            go_wp2_with fail
            refine (known_any w6).mono ?_
            rintro e w7 ⟨rfl, hb7⟩
            have k8 := k7.trans (hb7.mono k7.size)
            go_wp2_with fail
            go_ret
            exact Ans.mk rfl k8
          · have hx1 : 1 ≤ xn := fine_one HFN.out
            obtain ⟨N, rfl⟩ := Int.eq_ofNat_of_zero_le (show 0 ≤ xn by omega)
            have e3 : N = T := by rw [← HT.out]; unfold F.tick; rw [if_neg h3, if_neg h4]; rfl
            subst e3
            have h12 : xk = 1 ∨ xk = 2 := by have := (fine_iff _ _ _).1 HFN.out; omega
            clear h3 h4
            rcases h12 with rfl | rfl
            all_goals
              go_wp2_with fail
              refine (size_any _ z c L 0 w5 r5 hc (by omega)).mono ?_
              rw [HS0.out]
              rintro e w6 ⟨rfl, hb6⟩
              have k7 := k6.trans (hb6.mono k6.size)
              go_wp2_with fail
              refine (known_any w6).mono ?_
              rintro e w7 ⟨rfl, hb7⟩
              have k8 := k7.trans (hb7.mono k7.size)
              go_wp2_with fail
              go_ret
              exact Ans.mk rfl k8
  · generalize rt n (k.dep + 1) (F.tick x k.len) = q at hz hRt HRr
    have hz1 : (q == 0) = false := beq_eq_false_iff_ne.2 hz
    have hz2 : (q != 0) = true := by rw [bne, hz1]; rfl
    have HRT := Lib.hid hRt
    clear hRt hok hlen hlen' hz
    go_wp2_with fail
    refine HRT.out.mono ?_
    rintro e w3 ⟨rfl, hb3⟩
    have k3 := hb2.trans (hb3.mono hb2.size)
    go_wp2_with fail
    refine (HRr.out w3 (hr.on hb3)).mono ?_
    rintro e w4 ⟨rfl, hb4⟩
    have k4 := k3.trans (hb4.mono k3.size)
    go_wp2_with fail
    refine (known_any w4).mono ?_
    rintro e w5 ⟨rfl, hb5⟩
    have k5 := k4.trans (hb5.mono k4.size)
    go_wp2_with fail
    go_ret
    exact Ans.mk rfl k5

set_option maxRecDepth 100000 in
theorem lifted (os : Os) (started : os.Started) (H : Type) (enc : TypeId × Value → H) :
    ReturnsInHanded {} Try.checked os 4 .any (Rows.nodePartsSpec.pre6 enc Try.prog Try.f4 Rows.nodePartsRow.domain false) (Rows.nodePartsSpec.post enc Try.prog Try.f4 false true false false) := by
  refine returnsInHanded_of_change_sized (C := Try.checked) own started (by kernel_rfl) Try.func4
    (ChangeSpec.witness6 (enc := enc) (C := Try.checked) false ⟨#[], #[.slice none 0 0, .int .i64 0], []⟩ 8 (by kernel_rfl) (by kernel_rfl) (by kernel_rfl) (by kernel_rfl)) ?_
  intro W base args ds gs before hval0 hW hcnd hsz0 _
  have hval : ∀ (j : Nat) t v, Try.f4.params[j]? = some t → args[j]? = some v → Value.okWide Try.prog W .any base t v := hval0
  have hW' := hW
  obtain ⟨p, q, hA0, hV, rfl, hfz, hnd⟩ := hW
  have hA : DataW.TrodAll enc Try.prog W 0 (fun _ => true) true Try.f4.params.toList args.toList ds p := hA0
  have hsz : (DataW.weightsEach Try.prog (Try.f4.params.toList ++ Rows.nodePartsSpec.plain.varTypes Try.prog) (ds ++ gs)).all (· ≤ reachBytes) = true := hsz0
  rw [Try.params4] at hA hval hsz
  obtain ⟨v0, vs0, d0, ds0, p0, q0, hargs, rfl, rfl, h0, r0⟩ := trodAll_cons hA
  obtain ⟨v1, vs1, d1, ds1, p1, q1, rfl, rfl, rfl, h1, r1⟩ := trodAll_cons r0
  obtain ⟨rfl, rfl, rfl⟩ := trodAll_nil r1
  obtain rfl : args = #[v0, v1] := by cases args; simp_all
  obtain ⟨rfl, rfl⟩ := trodVars_none hV
  obtain ⟨A0, n0, k0, rfl⟩ := okWide_slice Try.underlying24 (hval 0 24 v0 rfl rfl)
  have t0 := h0
  have lt0 : ∀ x ∈ p0, x.block < W.heap.size := by obtain ⟨m, hm⟩ := t0; exact DataW.trod_lt m _ _ _ hm
  obtain ⟨f0, u0, c0, b0, w0⟩ := ints_sized h0 (fun elems spare e => sized_slice hsz (j := 0) (t := 24) (e := 3) rfl (by rw [← e]; rfl) Try.underlying24)
  obtain ⟨a1, rfl, rfl, rfl, w1⟩ := open_int Try.underlying3 (hval 1 3 v1 rfl rfl) h1
  clear hA0 hval0
  refine (walk A0 n0 k0 f0 a1 W u0 c0 b0 w0 w1).mono fun e W' ⟨he, bel⟩ => ?_
  subst he
  exact ⟨_, rfl, _, _, _, [], _, [], hW', trodAll_mk1 (shut_bool Try.underlying4 _), (trodAll_cons_mk (Below.trod laidOut (by kernel_rfl) (of_decide_eq_true (by kernel_rfl)) t0 bel lt0) (trodAll_cons_mk (shut_int Try.underlying3 w1) trodAll_mk0)), rfl, bel.frame _, fun h => by cases h⟩

theorem proved : Rows.NodePartsSaid :=
  OpenClaim.holds_of_wide 4 Try.f4 rfl rfl rfl rfl rfl rfl rfl ⟨rfl, rfl, rfl, rfl, rfl⟩ rfl rfl rfl rfl rfl (by kernel_rfl) Try.func4 (by kernel_rfl)
    (of_decide_eq_true (by kernel_rfl)) (by unfold Func.isWrapper; first | (rw [if_pos (by decide +kernel)]; kernel_rfl) | (rw [if_neg (by decide +kernel)]; exact ⟨rfl, rfl⟩))
    (fun os started H enc _ => lifted os started H enc)
end Go.Proofs.Ythddhkcmonjebaa.nodeParts
