/- WordMoved: whatever is turned about step by step, by runs that do not depend, nobody can tell (the walk; what package word answers is a premise). -/
import Derived.Test.YtcdgofdnafbacaaLow1
import Derived.Test.YtcdgofdnafbacaaWtrn
namespace Go.Proofs.Ytcdgofdnafbacaa.wordMoved
open Go.ChangeShapes Go.WideShapes Go.ChangeAt Go.RowKit Tab
open wordTurns (swZ_in swapAt_len)
set_option linter.unusedSimpArgs false
set_option linter.unusedVariables false

theorem swap_perm (l : List Rn) (k : Nat) : (swapAt l k).Perm l := by
  cases hx : l[k]? with
  | none => unfold swapAt; rw [hx]
  | some x =>
    cases hy : l[k + 1]? with
    | none => unfold swapAt; rw [hx, hy]
    | some y =>
      rw [swap_two hx hy]
      conv => rhs; rw [split_two hx hy]
      exact List.Perm.append_left _ (List.Perm.swap _ _ _)
theorem perm_ticks {X L : List Rn} (h : X.Perm L) : ticks X = ticks L := by
  induction h with
  | nil => rfl
  | cons x _ ih => simp [ticks] at ih ⊢; omega
  | swap x y l => simp [ticks]; omega
  | trans _ _ h1 h2 => rw [h1, h2]
set_option maxRecDepth 100000 in
set_option maxHeartbeats 4000000 in
theorem walk (H : WordW) (A0 : Option Addr) (n0 k0 : Nat) (f0 : Nat → Int) (A1 : Option Addr) (n1 k1 : Nat) (f1 : Nat → Int) (bs : Int) (w : World)
    (r0 : RdC w w.heap.size A0 n0 fun j => .int .i64 (f0 j)) (r1 : RdC w w.heap.size A1 n1 fun j => .int .i64 (f1 j)) (c0 : n0 ≤ k0) (c1 : n1 ≤ k1) (b0 : k0 ≤ 140737488351232) (b1 : k1 ≤ 140737488351232) (z1 : -9223372036854775808 ≤ bs) (z2 : bs ≤ 9223372036854775807) :
    Calls Try.prog 7 #[.slice A0 n0 k0, .slice A1 n1 k1, .int .i64 bs] w (Ans (.bool true) w) := by
  have R0 := Lib.hid r0
  have R1 := Lib.hid r1
  have HZ := Lib.hid (And.intro z1 z2)
  clear r0 r1 z1 z2
  go_enter Try.func7, Try.ntmps7
  go_wp2_with fail
  refine (row_box A0 n0 k0 f0 w 4 14 4 14 rfl rfl (by omega) (by omega) (by omega) (by omega) R0.out (by omega)).mono ?_
  rintro e w1 ⟨L, B1, m1, d1, rfl, hL, hr1, hd1, h1a, h1b, k1⟩
  have htk : ticks L ≤ 56 := by
    have := fair_ticks hL
    rw [hr1.len] at this
    omega
  have hlT := tidy_le L
  rw [hr1.len] at hlT
  have hT := rtidy_any B1 m1 d1 L w1 hr1 hd1 (by omega) (by omega)
  have hAp := tidy_apart L
  have hTtk := ticks_tidy L
  have hfair : ∀ r ∈ tidy L, 1 ≤ r.n ∧ -1 ≤ r.p ∧ r.p < (4 : Nat) := fun r hr => by
    obtain ⟨x, hx, e⟩ := tidy_part hr
    have h3 := hL x hx
    have h4 := hAp.pos r hr
    unfold Fair at h3
    omega
  unfold MadeR at hT
  generalize tidy L = Z at hlT hT hAp hTtk hfair
  rw [← hTtk] at htk
  have HT := Lib.hid hT
  have HFA := Lib.hid hfair
  have HK1 := Lib.hid k1
  clear hT hAp hTtk hfair hr1 hL R0 k1
  go_wp2_with fail
  refine HT.out.mono ?_
  rintro e w2 ⟨A2, c2, rfl, hr2, hc2, hb2, _⟩
  obtain ⟨n, hn⟩ : ∃ n, n = Z.length := ⟨_, rfl⟩
  rw [← hn] at hr2 hc2 hlT ⊢
  have HLN := Lib.hid hn
  have HR2 := Lib.hid hr2
  have HK2 := Lib.hid (HK1.out.trans (hb2.mono HK1.out.size))
  clear hn hr2 hb2 HT HK1
  go_wp2_with fail
  refine (dependence_any 4 bs w2 (by omega) HZ.out.1 HZ.out.2).mono ?_
  intro e w3 hdep
  obtain ⟨A3, c3, rfl, hc3, hm3, k3⟩ := hdep.m
  have HRD := Lib.hid fun w' (hb : Below w3.heap.size w3 w') => hm3.on hb
  have HRL := Lib.hid fun w' (hb : Below w3.heap.size w3 w') => (HR2.out.on k3).on hb
  have HK3 := Lib.hid (HK2.out.trans (k3.mono HK2.out.size))
  clear hdep hm3 k3 HR2 HK2
  go_wp2_with fail
  go_loopw [9, 10, 11, 12, 13] (fun x s _ _ _ wr => ∃ (j c' : Nat) (A' : Option Addr) (X : List Rn), j ≤ n1 ∧ s = .int .i64 j ∧ x = .slice A' n c' ∧ RdR wr wr.heap.size A' n X ∧ n ≤ c' ∧ sameD 4 (depF bs) Z X = true ∧ X.Perm Z ∧ Below w3.heap.size w3 wr) (fun _ s _ _ _ _ => n1 - (intOf s).toNat)
  case atStart => exact ⟨0, c2, A2, Z, by omega, rfl, rfl, HRL.out w3 (Below.refl _ _), hc2, sameD_self _ _ _, List.Perm.refl _, Below.refl _ _⟩
  case round =>
    obtain ⟨j, cX, AX, X, hj, rfl, rfl, hrX, hcX, hsm, hpm, hb⟩ := hrel
    have HXL := Lib.hid hrX.len
    have HRX := Lib.hid fun w' (h : Below wr.heap.size wr w') => hrX.on h
    have HRDX := Lib.hid fun w' (h : Below wr.heap.size wr w') => HRD.out w' (hb.trans (h.mono hb.size))
    have HRLX := Lib.hid fun w' (h : Below wr.heap.size wr w') => HRL.out w' (hb.trans (h.mono hb.size))
    have HKX := Lib.hid hb
    have HSM := Lib.hid hsm
    have HPM := Lib.hid hpm
    have htX : ticks X ≤ 56 := by rw [perm_ticks hpm]; exact htk
    clear hrX hb hsm hpm HRD HRL
    by_cases hgo : j < n1 ∧ j < 25 ∧ 1 < n
    · obtain ⟨h1, h2, h3⟩ := hgo
      have h1i : (j : Int) < (n1 : Int) := by omega
      have h2i : (j : Int) < 25 := by omega
      have h3i : (1 : Int) < (n : Int) := by omega
      obtain ⟨ad, rfl, had, ca⟩ := ((R1.out.below HK3.out).more HK3.out.size |>.below HKX.out).at_ h1
      go_wp2_with fail
      refine (within_at (f1 j) _ (n - 2) wr (by omega) (by omega)).mono ?_
      rintro e _ ⟨k, hk, rfl, rfl⟩
      have hkn : k + 1 < n := by omega
      obtain ⟨adX, x, rfl, _, hx, cx, cx'⟩ := (HRX.out wr (Below.refl _ _)).at_ (i := k) (by omega)
      obtain ⟨adX', y, e, _, hy, cy, cy'⟩ := (HRX.out wr (Below.refl _ _)).at_ (i := k + 1) (by omega)
      injection e with e
      subst e
      have hfx := HFA.out x (HPM.out.mem_iff.1 (List.mem_of_getElem? hx))
      have hfy := HFA.out y (HPM.out.mem_iff.1 (List.mem_of_getElem? hy))
      have hfx' := hfx.2
      have hfy' := hfy.2
      have hkni : (k : Int) < (n : Int) := by omega
      have hkni1 : (k : Int) + 1 < (n : Int) := by omega
      have hkw : IntKind.i64.wrap ((k : Int) + 1) = (k : Int) + 1 := IntWalk.i64_in _ ⟨by omega, by omega⟩
      have hkt : ((k : Int) + 1).toNat = k + 1 := by omega
      clear cx' cy' ca
      have HX := Lib.hid hx
      have HYY := Lib.hid hy
      clear hx hy
      go_wp2_with fail
      go_quiet (fail)
      clear cx cy hkw hkt
      have hx := HX.out
      have hy := HYY.out
      have kq : Below wr.heap.size wr (wr.drewN nq) := Below.drewN (Below.refl _ _) nq
      generalize wr.drewN nq = w5 at kq ⊢
      obtain ⟨xp, xn⟩ := x
      obtain ⟨yp, yn⟩ := y
      dsimp only at hfx hfy hfx' hfy' ⊢
      by_cases px : xp = -1
      · have p1 : (xp == (-1 : Int)) = true := beq_iff_eq.2 px
        have hfr : (⟨xp, xn⟩ : Rn).p = -1 ∨ (⟨yp, yn⟩ : Rn).p = -1 ∨ ((⟨xp, xn⟩ : Rn).p ≠ (⟨yp, yn⟩ : Rn).p ∧ depF bs (⟨xp, xn⟩ : Rn).p.toNat (⟨yp, yn⟩ : Rn).p.toNat = false) := .inl px
        clear px
        have hfr2 := turned_free HSM.out hx hy hfx' hfy' hfr
        have hswp := (swap_perm X k).trans HPM.out
        have hslen : (swapAt X k).length = n := by rw [swapAt_len]; exact HXL.out
        have hSw := H.swap (some adX) n cX X (k : Int) w5 (HRX.out w5 kq) hcX (by omega) (by omega) (by omega)
        rw [swZ_in (L := X) (k := k) (by rw [HXL.out]; exact hkn)] at hSw
        generalize swapAt X k = Y at hSw hfr2 hswp hslen
        have HSw := Lib.hid hSw
        have HY := Lib.hid (And.intro hfr2 hswp)
        clear hSw hfr2 hswp hx hy hfx' hfy' hfr
        go_wp2_with fail
        refine HSw.out.mono ?_
        rintro e w6 ⟨A6, c6, rfl, hr6, hc6, hb6⟩
        rw [hslen] at hr6 hc6 ⊢
        have HR6 := Lib.hid hr6
        have HK6 := Lib.hid (HKX.out.trans ((kq.trans (hb6.mono kq.size)).mono HKX.out.size))
        clear hb6 hr6 HSw
        go_wp2_with fail
        go_roundw
        case rel => exact ⟨j + 1, c6, A6, Y, by omega, by go_num, rfl, HR6.out, hc6, HY.out.1, HY.out.2, HK6.out⟩
        case measure => simp [intOf]; omega
      · have p1 : (xp == (-1 : Int)) = false := beq_eq_false_iff_ne.2 px
        by_cases py : yp = -1
        · have p2 : (yp == (-1 : Int)) = true := beq_iff_eq.2 py
          have hfr : (⟨xp, xn⟩ : Rn).p = -1 ∨ (⟨yp, yn⟩ : Rn).p = -1 ∨ ((⟨xp, xn⟩ : Rn).p ≠ (⟨yp, yn⟩ : Rn).p ∧ depF bs (⟨xp, xn⟩ : Rn).p.toNat (⟨yp, yn⟩ : Rn).p.toNat = false) := .inr (.inl py)
          clear px py
          have hfr2 := turned_free HSM.out hx hy hfx' hfy' hfr
          have hswp := (swap_perm X k).trans HPM.out
          have hslen : (swapAt X k).length = n := by rw [swapAt_len]; exact HXL.out
          have hSw := H.swap (some adX) n cX X (k : Int) w5 (HRX.out w5 kq) hcX (by omega) (by omega) (by omega)
          rw [swZ_in (L := X) (k := k) (by rw [HXL.out]; exact hkn)] at hSw
          generalize swapAt X k = Y at hSw hfr2 hswp hslen
          have HSw := Lib.hid hSw
          have HY := Lib.hid (And.intro hfr2 hswp)
          clear hSw hfr2 hswp hx hy hfx' hfy' hfr
          go_wp2_with fail
          refine HSw.out.mono ?_
          rintro e w6 ⟨A6, c6, rfl, hr6, hc6, hb6⟩
          rw [hslen] at hr6 hc6 ⊢
          have HR6 := Lib.hid hr6
          have HK6 := Lib.hid (HKX.out.trans ((kq.trans (hb6.mono kq.size)).mono HKX.out.size))
          clear hb6 hr6 HSw
          go_wp2_with fail
          go_roundw
          case rel => exact ⟨j + 1, c6, A6, Y, by omega, by go_num, rfl, HR6.out, hc6, HY.out.1, HY.out.2, HK6.out⟩
          case measure => simp [intOf]; omega
        · have p2 : (yp == (-1 : Int)) = false := beq_eq_false_iff_ne.2 py
          by_cases pq : xp = yp
          · have p3 : (xp != yp) = false := by rw [pq]; exact bne_self_eq_false _
            clear px py
            have HR6 := Lib.hid (HRX.out w5 kq)
            have HK6 := Lib.hid (HKX.out.trans (kq.mono HKX.out.size))
            clear hx hy hfx' hfy'
            go_wp2_with fail
            go_roundw
            case rel => exact ⟨j + 1, cX, some adX, X, by omega, by go_num, rfl, HR6.out, hcX, HSM.out, HPM.out, HK6.out⟩
            case measure => simp [intOf]; omega
          · have p3 : (xp != yp) = true := bne_iff_ne.2 pq
            obtain ⟨u, rfl⟩ : ∃ u : Nat, xp = u := ⟨xp.toNat, by omega⟩
            obtain ⟨v, rfl⟩ : ∃ v : Nat, yp = v := ⟨yp.toNat, by omega⟩
            have hu4 : u < 4 := by omega
            have hv4 : v < 4 := by omega
            obtain ⟨ad3, R, cR, rfl, _, e0, _, hrow⟩ := (HRDX.out w5 kq).at_ hu4
            obtain ⟨aR, rfl, _, e1⟩ := hrow.at_ hv4
            have hui : (u : Int) < 4 := by omega
            have hvi : (v : Int) < 4 := by omega
            cases hd : depF bs u v with
            | false =>
              rw [hd] at e1
              have hfr : (⟨(u : Int), xn⟩ : Rn).p = -1 ∨ (⟨(v : Int), yn⟩ : Rn).p = -1 ∨ ((⟨(u : Int), xn⟩ : Rn).p ≠ (⟨(v : Int), yn⟩ : Rn).p ∧ depF bs (⟨(u : Int), xn⟩ : Rn).p.toNat (⟨(v : Int), yn⟩ : Rn).p.toNat = false) := .inr (.inr ⟨pq, hd⟩)
              clear px py hrow hd
              have hfr2 := turned_free HSM.out hx hy hfx' hfy' hfr
              have hswp := (swap_perm X k).trans HPM.out
              have hslen : (swapAt X k).length = n := by rw [swapAt_len]; exact HXL.out
              have hSw := H.swap (some adX) n cX X (k : Int) w5 (HRX.out w5 kq) hcX (by omega) (by omega) (by omega)
              rw [swZ_in (L := X) (k := k) (by rw [HXL.out]; exact hkn)] at hSw
              generalize swapAt X k = Y at hSw hfr2 hswp hslen
              have HSw := Lib.hid hSw
              have HY := Lib.hid (And.intro hfr2 hswp)
              clear hSw hfr2 hswp hx hy hfx' hfy' hfr
              go_wp2_with fail
              refine HSw.out.mono ?_
              rintro e w6 ⟨A6, c6, rfl, hr6, hc6, hb6⟩
              rw [hslen] at hr6 hc6 ⊢
              have HR6 := Lib.hid hr6
              have HK6 := Lib.hid (HKX.out.trans ((kq.trans (hb6.mono kq.size)).mono HKX.out.size))
              clear hb6 hr6 HSw
              go_wp2_with fail
              go_roundw
              case rel => exact ⟨j + 1, c6, A6, Y, by omega, by go_num, rfl, HR6.out, hc6, HY.out.1, HY.out.2, HK6.out⟩
              case measure => simp [intOf]; omega
            | true =>
              rw [hd] at e1
              clear px py hrow hd
              have HR6 := Lib.hid (HRX.out w5 kq)
              have HK6 := Lib.hid (HKX.out.trans (kq.mono HKX.out.size))
              clear hx hy hfx' hfy'
              go_wp2_with fail
              go_roundw
              case rel => exact ⟨j + 1, cX, some adX, X, by omega, by go_num, rfl, HR6.out, hcX, HSM.out, HPM.out, HK6.out⟩
              case measure => simp [intOf]; omega
    · have hex : ¬ j < n1 ∨ (j < n1 ∧ ¬ j < 25) ∨ (j < n1 ∧ j < 25 ∧ ¬ 1 < n) := by omega
      have hdf := diffF_of (sameD_iff.1 HSM.out)
      have HDIF := Lib.hid fun W (hb : Below wr.heap.size wr W) => H.differ A2 AX A3 n n 4 c2 cX c3 Z X (depF bs) W (HRLX.out W hb) (HRX.out W hb) (HRDX.out W hb) hc2 hcX (by omega) (by omega) (by omega) (by omega) (by omega)
      rw [hdf] at HDIF
      have hsy : sameD 4 (depF bs) X Z = true := by rw [sameD_sym]; exact HSM.out
      have HSAM : Hid (∀ W, Below wr.heap.size wr W → Calls Try.prog 19 #[.slice AX n cX, .slice A2 n c2, .slice A3 4 c3] W (Ans (.bool true) W)) := Lib.hid fun W hb => by
        rw [← hsy]
        exact H.same AX A2 A3 n n 4 cX c2 c3 X Z (depF bs) W (HRX.out W hb) (HRLX.out W hb) (HRDX.out W hb) hcX hc2 (by omega) (by omega) (by omega) (by omega) (by omega)
      clear hdf hsy
      rcases hex with h1 | ⟨h1, h2⟩ | ⟨h1, h2, h3⟩
      · have h1i : ¬ (j : Int) < (n1 : Int) := by omega
        obtain ⟨W0, rfl⟩ : ∃ W0, W0 = wr := ⟨_, rfl⟩
        go_wp2_with fail
        refine (HDIF.out W0 (Below.refl _ _)).mono ?_
        rintro e w6 ⟨rfl, k6⟩
        dsimp only
        have HK6 := Lib.hid k6
        clear k6
        go_wp2_with fail
        go_loopw [17, 18] (fun s _ wy => ∃ p : Nat, p ≤ 4 ∧ s = .int .i64 p ∧ Below W0.heap.size W0 wy) (fun s _ _ => 4 - (intOf s).toNat)
        case atStart => exact ⟨0, by omega, rfl, HK6.out⟩
        case round =>
          obtain ⟨p, hp4, rfl, hb⟩ := hrel
          have HKp := Lib.hid hb
          clear hb HK6
          by_cases hp : p < 4
          · have hpi : (p : Int) < 4 := by omega
            go_wp2_with fail
            go_loopw [18] (fun s wz => ∃ q : Nat, p ≤ q ∧ q ≤ 4 ∧ s = .int .i64 q ∧ Below W0.heap.size W0 wz) (fun s _ => 4 - (intOf s).toNat)
            case atStart => exact ⟨p, Nat.le_refl _, hp4, rfl, HKp.out⟩
            case round =>
              obtain ⟨q, hpq, hq4, rfl, hb⟩ := hrel
              have HKq := Lib.hid hb
              clear hb HKp
              by_cases hq : q < 4
              · have hqi : (q : Int) < 4 := by omega
                obtain ⟨ad3, R, cR, rfl, _, e0, _, hrow⟩ := (HRDX.out _ HKq.out).at_ hp
                obtain ⟨aR, rfl, _, e1⟩ := hrow.at_ hq
                have hpr : depF bs p q = true → proj p q Z = proj p q X := fun h => sameD_proj (by omega) HSM.out hpq hq h
                generalize depF bs p q = d at e1 hpr
                clear hrow
                cases d with
                | false =>
                  clear hpr
                  go_wp2_with fail
                  go_roundw
                  case rel => exact ⟨q + 1, by omega, by omega, by go_num, HKq.out⟩
                  case measure => simp [intOf]; omega
                | true =>
                  have hpe := hpr rfl
                  have P1 := Lib.hid fun W (hb : Below W0.heap.size W0 W) => H.project A2 n c2 Z p q W (HRLX.out W hb) hc2 (by omega) (by omega)
                  have P2 := Lib.hid fun W (hb : Below W0.heap.size W0 W) => H.project AX n cX X p q W (HRX.out W hb) hcX (by omega) (by omega)
                  have hpl : (proj p q X).length ≤ 1048576 := by
                    have := proj_le p q X
                    have := HXL.out
                    omega
                  rw [hpe] at P1
                  generalize proj p q X = P at P1 P2 hpl
                  clear hpr hpe
                  go_wp2_with fail
                  refine (P1.out _ HKq.out).mono ?_
                  rintro e w7 ⟨A7, c7, rfl, hr7, hc7, hb7⟩
                  have k7 := HKq.out.trans (hb7.mono HKq.out.size)
                  clear hb7 HKq
                  go_wp2_with fail
                  refine (P2.out w7 k7).mono ?_
                  rintro e w8 ⟨A8, c8, rfl, hr8, hc8, hb8⟩
                  have k8 := k7.trans (hb8.mono k7.size)
                  have hr7' := hr7.on hb8
                  clear hb8 k7 hr7 P1 P2
                  have hs9 := xsame_any A7 A8 P.length P.length c7 c8 P P w8 hr7' hr8 hpl
                  rw [(sameR_iff P P).2 rfl] at hs9
                  have HS9 := Lib.hid hs9
                  clear hs9 hr7' hr8 hpl
                  go_wp2_with fail
                  refine HS9.out.mono ?_
                  rintro e w9 ⟨rfl, qn, rfl⟩
                  have HK9 := Lib.hid (Below.drewN k8 qn)
                  clear k8 HS9
                  go_wp2_with fail
                  go_roundw
                  case rel => exact ⟨q + 1, by omega, by omega, by go_num, HK9.out⟩
                  case measure => simp [intOf]; omega
              · have hqi : ¬ (q : Int) < 4 := by omega
                go_wp2_with fail
                go_roundw
                case rel => exact ⟨p + 1, by omega, by go_num, HKq.out⟩
                case measure => simp [intOf]; omega
          · have hpi : ¬ (p : Int) < 4 := by omega
            go_wp2_with fail
            refine (HSAM.out _ HKp.out).mono ?_
            rintro e w7 ⟨rfl, hb7⟩
            have k7 := HKp.out.trans (hb7.mono HKp.out.size)
            clear hb7 HKp
            go_wp2_with fail
            refine (known8_any H w7).mono ?_
            rintro e w8 ⟨rfl, hb8⟩
            have k8 := k7.trans (hb8.mono k7.size)
            go_wp2_with fail
            go_ret
            exact Ans.mk rfl (HK3.out.trans ((HKX.out.trans (k8.mono HKX.out.size)).mono HK3.out.size))
      · have h1i : (j : Int) < (n1 : Int) := by omega
        have h2i : ¬ (j : Int) < 25 := by omega
        obtain ⟨W0, rfl⟩ : ∃ W0, W0 = wr := ⟨_, rfl⟩
        go_wp2_with fail
        refine (HDIF.out W0 (Below.refl _ _)).mono ?_
        rintro e w6 ⟨rfl, k6⟩
        dsimp only
        have HK6 := Lib.hid k6
        clear k6
        go_wp2_with fail
        go_loopw [17, 18] (fun s _ wy => ∃ p : Nat, p ≤ 4 ∧ s = .int .i64 p ∧ Below W0.heap.size W0 wy) (fun s _ _ => 4 - (intOf s).toNat)
        case atStart => exact ⟨0, by omega, rfl, HK6.out⟩
        case round =>
          obtain ⟨p, hp4, rfl, hb⟩ := hrel
          have HKp := Lib.hid hb
          clear hb HK6
          by_cases hp : p < 4
          · have hpi : (p : Int) < 4 := by omega
            go_wp2_with fail
            go_loopw [18] (fun s wz => ∃ q : Nat, p ≤ q ∧ q ≤ 4 ∧ s = .int .i64 q ∧ Below W0.heap.size W0 wz) (fun s _ => 4 - (intOf s).toNat)
            case atStart => exact ⟨p, Nat.le_refl _, hp4, rfl, HKp.out⟩
            case round =>
              obtain ⟨q, hpq, hq4, rfl, hb⟩ := hrel
              have HKq := Lib.hid hb
              clear hb HKp
              by_cases hq : q < 4
              · have hqi : (q : Int) < 4 := by omega
                obtain ⟨ad3, R, cR, rfl, _, e0, _, hrow⟩ := (HRDX.out _ HKq.out).at_ hp
                obtain ⟨aR, rfl, _, e1⟩ := hrow.at_ hq
                have hpr : depF bs p q = true → proj p q Z = proj p q X := fun h => sameD_proj (by omega) HSM.out hpq hq h
                generalize depF bs p q = d at e1 hpr
                clear hrow
                cases d with
                | false =>
                  clear hpr
                  go_wp2_with fail
                  go_roundw
                  case rel => exact ⟨q + 1, by omega, by omega, by go_num, HKq.out⟩
                  case measure => simp [intOf]; omega
                | true =>
                  have hpe := hpr rfl
                  have P1 := Lib.hid fun W (hb : Below W0.heap.size W0 W) => H.project A2 n c2 Z p q W (HRLX.out W hb) hc2 (by omega) (by omega)
                  have P2 := Lib.hid fun W (hb : Below W0.heap.size W0 W) => H.project AX n cX X p q W (HRX.out W hb) hcX (by omega) (by omega)
                  have hpl : (proj p q X).length ≤ 1048576 := by
                    have := proj_le p q X
                    have := HXL.out
                    omega
                  rw [hpe] at P1
                  generalize proj p q X = P at P1 P2 hpl
                  clear hpr hpe
                  go_wp2_with fail
                  refine (P1.out _ HKq.out).mono ?_
                  rintro e w7 ⟨A7, c7, rfl, hr7, hc7, hb7⟩
                  have k7 := HKq.out.trans (hb7.mono HKq.out.size)
                  clear hb7 HKq
                  go_wp2_with fail
                  refine (P2.out w7 k7).mono ?_
                  rintro e w8 ⟨A8, c8, rfl, hr8, hc8, hb8⟩
                  have k8 := k7.trans (hb8.mono k7.size)
                  have hr7' := hr7.on hb8
                  clear hb8 k7 hr7 P1 P2
                  have hs9 := xsame_any A7 A8 P.length P.length c7 c8 P P w8 hr7' hr8 hpl
                  rw [(sameR_iff P P).2 rfl] at hs9
                  have HS9 := Lib.hid hs9
                  clear hs9 hr7' hr8 hpl
                  go_wp2_with fail
                  refine HS9.out.mono ?_
                  rintro e w9 ⟨rfl, qn, rfl⟩
                  have HK9 := Lib.hid (Below.drewN k8 qn)
                  clear k8 HS9
                  go_wp2_with fail
                  go_roundw
                  case rel => exact ⟨q + 1, by omega, by omega, by go_num, HK9.out⟩
                  case measure => simp [intOf]; omega
              · have hqi : ¬ (q : Int) < 4 := by omega
                go_wp2_with fail
                go_roundw
                case rel => exact ⟨p + 1, by omega, by go_num, HKq.out⟩
                case measure => simp [intOf]; omega
          · have hpi : ¬ (p : Int) < 4 := by omega
            go_wp2_with fail
            refine (HSAM.out _ HKp.out).mono ?_
            rintro e w7 ⟨rfl, hb7⟩
            have k7 := HKp.out.trans (hb7.mono HKp.out.size)
            clear hb7 HKp
            go_wp2_with fail
            refine (known8_any H w7).mono ?_
            rintro e w8 ⟨rfl, hb8⟩
            have k8 := k7.trans (hb8.mono k7.size)
            go_wp2_with fail
            go_ret
            exact Ans.mk rfl (HK3.out.trans ((HKX.out.trans (k8.mono HKX.out.size)).mono HK3.out.size))
      · have h1i : (j : Int) < (n1 : Int) := by omega
        have h2i : (j : Int) < 25 := by omega
        have h3i : ¬ (1 : Int) < (n : Int) := by omega
        obtain ⟨W0, rfl⟩ : ∃ W0, W0 = wr := ⟨_, rfl⟩
        go_wp2_with fail
        refine (HDIF.out W0 (Below.refl _ _)).mono ?_
        rintro e w6 ⟨rfl, k6⟩
        dsimp only
        have HK6 := Lib.hid k6
        clear k6
        go_wp2_with fail
        go_loopw [17, 18] (fun s _ wy => ∃ p : Nat, p ≤ 4 ∧ s = .int .i64 p ∧ Below W0.heap.size W0 wy) (fun s _ _ => 4 - (intOf s).toNat)
        case atStart => exact ⟨0, by omega, rfl, HK6.out⟩
        case round =>
          obtain ⟨p, hp4, rfl, hb⟩ := hrel
          have HKp := Lib.hid hb
          clear hb HK6
          by_cases hp : p < 4
          · have hpi : (p : Int) < 4 := by omega
            go_wp2_with fail
            go_loopw [18] (fun s wz => ∃ q : Nat, p ≤ q ∧ q ≤ 4 ∧ s = .int .i64 q ∧ Below W0.heap.size W0 wz) (fun s _ => 4 - (intOf s).toNat)
            case atStart => exact ⟨p, Nat.le_refl _, hp4, rfl, HKp.out⟩
            case round =>
              obtain ⟨q, hpq, hq4, rfl, hb⟩ := hrel
              have HKq := Lib.hid hb
              clear hb HKp
              by_cases hq : q < 4
              · have hqi : (q : Int) < 4 := by omega
                obtain ⟨ad3, R, cR, rfl, _, e0, _, hrow⟩ := (HRDX.out _ HKq.out).at_ hp
                obtain ⟨aR, rfl, _, e1⟩ := hrow.at_ hq
                have hpr : depF bs p q = true → proj p q Z = proj p q X := fun h => sameD_proj (by omega) HSM.out hpq hq h
                generalize depF bs p q = d at e1 hpr
                clear hrow
                cases d with
                | false =>
                  clear hpr
                  go_wp2_with fail
                  go_roundw
                  case rel => exact ⟨q + 1, by omega, by omega, by go_num, HKq.out⟩
                  case measure => simp [intOf]; omega
                | true =>
                  have hpe := hpr rfl
                  have P1 := Lib.hid fun W (hb : Below W0.heap.size W0 W) => H.project A2 n c2 Z p q W (HRLX.out W hb) hc2 (by omega) (by omega)
                  have P2 := Lib.hid fun W (hb : Below W0.heap.size W0 W) => H.project AX n cX X p q W (HRX.out W hb) hcX (by omega) (by omega)
                  have hpl : (proj p q X).length ≤ 1048576 := by
                    have := proj_le p q X
                    have := HXL.out
                    omega
                  rw [hpe] at P1
                  generalize proj p q X = P at P1 P2 hpl
                  clear hpr hpe
                  go_wp2_with fail
                  refine (P1.out _ HKq.out).mono ?_
                  rintro e w7 ⟨A7, c7, rfl, hr7, hc7, hb7⟩
                  have k7 := HKq.out.trans (hb7.mono HKq.out.size)
                  clear hb7 HKq
                  go_wp2_with fail
                  refine (P2.out w7 k7).mono ?_
                  rintro e w8 ⟨A8, c8, rfl, hr8, hc8, hb8⟩
                  have k8 := k7.trans (hb8.mono k7.size)
                  have hr7' := hr7.on hb8
                  clear hb8 k7 hr7 P1 P2
                  have hs9 := xsame_any A7 A8 P.length P.length c7 c8 P P w8 hr7' hr8 hpl
                  rw [(sameR_iff P P).2 rfl] at hs9
                  have HS9 := Lib.hid hs9
                  clear hs9 hr7' hr8 hpl
                  go_wp2_with fail
                  refine HS9.out.mono ?_
                  rintro e w9 ⟨rfl, qn, rfl⟩
                  have HK9 := Lib.hid (Below.drewN k8 qn)
                  clear k8 HS9
                  go_wp2_with fail
                  go_roundw
                  case rel => exact ⟨q + 1, by omega, by omega, by go_num, HK9.out⟩
                  case measure => simp [intOf]; omega
              · have hqi : ¬ (q : Int) < 4 := by omega
                go_wp2_with fail
                go_roundw
                case rel => exact ⟨p + 1, by omega, by go_num, HKq.out⟩
                case measure => simp [intOf]; omega
          · have hpi : ¬ (p : Int) < 4 := by omega
            go_wp2_with fail
            refine (HSAM.out _ HKp.out).mono ?_
            rintro e w7 ⟨rfl, hb7⟩
            have k7 := HKp.out.trans (hb7.mono HKp.out.size)
            clear hb7 HKp
            go_wp2_with fail
            refine (known8_any H w7).mono ?_
            rintro e w8 ⟨rfl, hb8⟩
            have k8 := k7.trans (hb8.mono k7.size)
            go_wp2_with fail
            go_ret
            exact Ans.mk rfl (HK3.out.trans ((HKX.out.trans (k8.mono HKX.out.size)).mono HK3.out.size))
end Go.Proofs.Ytcdgofdnafbacaa.wordMoved
