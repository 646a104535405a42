/- WordTurns: two runs side by side are turned about: nobody can tell, if they do not depend (the walk; what package word answers is a premise). -/
import Derived.Test.YtcdgofdnafbacaaLow1
import Derived.Test.YtcdgofdnafbacaaWkno
import Derived.Test.YtcdgofdnafbacaaWlaw
import Derived.Test.YtcdgofdnafbacaaBudg
namespace Go.Proofs.Ytcdgofdnafbacaa.wordTurns
open Go.ChangeShapes Go.WideShapes Go.ChangeAt Go.RowKit Tab
set_option linter.unusedSimpArgs false
set_option linter.unusedVariables false

theorem swZ_in {L : List Rn} {k : Nat} (h : k + 1 < L.length) : swZ L (k : Int) = swapAt L k := by
  unfold swZ
  rw [if_pos ⟨by omega, by omega⟩]
  rfl
theorem swapAt_len (L : List Rn) (k : Nat) : (swapAt L k).length = L.length := by
  unfold swapAt
  split <;> simp
set_option maxRecDepth 100000 in
set_option maxHeartbeats 4000000 in
theorem walk (H : WordW) (A0 : Option Addr) (n0 k0 : Nat) (f0 : Nat → Int) (at_ bs : Int) (w : World)
    (r0 : RdC w w.heap.size A0 n0 fun j => .int .i64 (f0 j)) (c0 : n0 ≤ k0) (b0 : k0 ≤ 140737488351232) (z1 : -9223372036854775808 ≤ bs) (z2 : bs ≤ 9223372036854775807) :
    Calls Try.prog 5 #[.slice A0 n0 k0, .int .i64 at_, .int .i64 bs] w (Ans (.bool true) w) := by
  have R0 := Lib.hid r0
  have HZ := Lib.hid (And.intro z1 z2)
  clear r0 z1 z2
  go_enter Try.func5, Try.ntmps5
  go_wp2_with fail
  refine (row_box A0 n0 k0 f0 w 4 16 4 16 rfl rfl (by omega) (by omega) (by omega) (by omega) R0.out (by omega)).mono ?_
  rintro e w1 ⟨L, B1, m1, d1, rfl, hL, hr1, hd1, h1a, h1b, k1⟩
  have htk : ticks L ≤ 64 := by
    have := fair_ticks hL
    rw [hr1.len] at this
    omega
  have hlT := tidy_le L
  rw [hr1.len] at hlT
  have hT := rtidy_any B1 m1 d1 L w1 hr1 hd1 (by omega) (by omega)
  have hAp := tidy_apart L
  have hTtk := ticks_tidy L
  have hfair : ∀ r ∈ tidy L, 1 ≤ r.n ∧ -1 ≤ r.p ∧ r.p < (4 : Nat) := fun r hr => by
    obtain ⟨x, hx, e⟩ := tidy_part hr
    have h3 := hL x hx
    have h4 := hAp.pos r hr
    unfold Fair at h3
    omega
  unfold MadeR at hT
  generalize tidy L = Z at hlT hT hAp hTtk hfair
  rw [← hTtk] at htk
  have HT := Lib.hid hT
  have HAP := Lib.hid hAp
  have HFA := Lib.hid hfair
  have HK1 := Lib.hid k1
  clear hT hAp hTtk hfair hr1 hL R0 k1
  go_wp2_with fail
  refine HT.out.mono ?_
  rintro e w2 ⟨A2, c2, rfl, hr2, hc2, hb2, _⟩
  obtain ⟨n, hn⟩ : ∃ n, n = Z.length := ⟨_, rfl⟩
  rw [← hn] at hr2 hc2 hlT ⊢
  have HLN := Lib.hid hn
  have HR2 := Lib.hid hr2
  have HK2 := Lib.hid (HK1.out.trans (hb2.mono HK1.out.size))
  clear hn hr2 hb2 HT HK1
  go_wp2_with fail
  refine (dependence_any 4 bs w2 (by omega) HZ.out.1 HZ.out.2).mono ?_
  intro e w3 hdep
  obtain ⟨A3, c3, rfl, hc3, hm3, k3⟩ := hdep.m
  have HRD := Lib.hid fun w' (hb : Below w3.heap.size w3 w') => hm3.on hb
  have HRL := Lib.hid fun w' (hb : Below w3.heap.size w3 w') => (HR2.out.on k3).on hb
  have HK3 := Lib.hid (HK2.out.trans (k3.mono HK2.out.size))
  clear hdep hm3 k3 HR2 HK2
  by_cases hlt : n < 2
  · have hlti : (n : Int) < 2 := by omega
    have hS := H.same A2 A2 A3 n n 4 c2 c2 c3 Z Z (depF bs) w3 (HRL.out w3 (Below.refl _ _)) (HRL.out w3 (Below.refl _ _)) (HRD.out w3 (Below.refl _ _)) hc2 hc2 (by omega) (by omega) (by omega) (by omega) (by omega)
    change Calls _ _ _ _ (Ans (.bool (sameD 4 (depF bs) Z Z)) w3) at hS
    rw [sameD_self] at hS
    have HS := Lib.hid hS
    clear hS
    go_wp2_with fail
    refine HS.out.mono ?_
    rintro e w4 ⟨rfl, k4⟩
    go_wp2_with fail
    refine (known8_any H w4).mono ?_
    rintro e w5 ⟨rfl, hb5⟩
    have k5 := k4.trans (hb5.mono k4.size)
    go_wp2_with fail
    go_ret
    exact Ans.mk rfl (HK3.out.trans (k5.mono HK3.out.size))
  · have hlti : ¬ (n : Int) < 2 := by omega
    go_wp2_with fail
    refine (within_at at_ _ (n - 2) w3 (by omega) (by omega)).mono ?_
    rintro e _ ⟨k, hk, rfl, rfl⟩
    have hkn : k + 1 < n := by omega
    obtain ⟨adZ, x, rfl, _, hx, cx, cx'⟩ := (HRL.out w3 (Below.refl _ _)).at_ (i := k) (by omega)
    obtain ⟨adZ', y, e, _, hy, cy, cy'⟩ := (HRL.out w3 (Below.refl _ _)).at_ (i := k + 1) (by omega)
    injection e with e
    subst e
    have hfx := HFA.out x (List.mem_of_getElem? hx)
    have hfy := HFA.out y (List.mem_of_getElem? hy)
    have HTD := Lib.hid (turned_told (b := bs) (n := 4) (by omega) HAP.out HFA.out hx hy)
    have htsw := ticks_swap hx hy
    have HSZ : Hid (swZ Z (k : Int) = swapAt Z k) := Lib.hid (swZ_in (by rw [← HLN.out]; exact hkn))
    have HSL : Hid ((swapAt Z k).length = n) := Lib.hid (by rw [swapAt_len, HLN.out])
    have hkni : (k : Int) < (n : Int) := by omega
    have hkni1 : (k : Int) + 1 < (n : Int) := by omega
    have hkw : IntKind.i64.wrap ((k : Int) + 1) = (k : Int) + 1 := IntWalk.i64_in _ ⟨by omega, by omega⟩
    have hkt : ((k : Int) + 1).toNat = k + 1 := by omega
    clear hx hy cx' cy' HAP HFA
    generalize swapAt Z k = S at HTD htsw HSZ HSL
    go_wp2_with fail
    go_quiet (fail)
    clear cx cy hkw hkt
    have kq : Below w3.heap.size w3 (w3.drewN nq) := Below.drewN (Below.refl _ _) nq
    generalize w3.drewN nq = w4 at kq ⊢
    generalize x.p = xp at HTD hfx ⊢
    generalize y.p = yp at HTD hfy ⊢
    by_cases px : xp = -1
    · have p1 : (xp == (-1 : Int)) = true := beq_iff_eq.2 px
      have hV : sameD 4 (depF bs) Z S = true := by rw [HTD.out]; simp [px]
      clear HTD px
      go_wp2_with fail
      have hSw := H.swap (some adZ) n c2 Z (k : Int) w4 (HRL.out w4 kq) hc2 (by omega) (by omega) (by omega)
      rw [HSZ.out] at hSw
      refine hSw.mono ?_
      clear hSw
      intro e w5 he
      obtain ⟨A5, c5, rfl, hr5, hc5, hb5⟩ := he
      rw [HSL.out] at hr5 hc5 ⊢
      have k5 := kq.trans (hb5.mono kq.size)
      have hS1 := H.same (some adZ) A5 A3 n n 4 c2 c5 c3 Z S (depF bs) w5 (HRL.out w5 k5) hr5 (HRD.out w5 k5) hc2 hc5 (by omega) (by omega) (by omega) (by omega) (by omega)
      change Calls _ _ _ _ (Ans (.bool (sameD 4 (depF bs) Z S)) w5) at hS1
      rw [hV] at hS1
      have HS1 := Lib.hid hS1
      clear hS1
      go_wp2_with fail
      refine HS1.out.mono ?_
      rintro e w6 ⟨rfl, hb6⟩
      have k6 := k5.trans (hb6.mono k5.size)
      have hr6 := hr5.on hb6
      have hS2 := H.same A5 (some adZ) A3 n n 4 c5 c2 c3 S Z (depF bs) w6 hr6 (HRL.out w6 k6) (HRD.out w6 k6) hc5 hc2 (by omega) (by omega) (by omega) (by omega) (by omega)
      change Calls _ _ _ _ (Ans (.bool (sameD 4 (depF bs) S Z)) w6) at hS2
      rw [sameD_sym, hV] at hS2
      have HS2 := Lib.hid hS2
      clear hS2 hV HS1 hb6 k5 hr5
      have hself : ((true : Bool) == true) = true := beq_self_eq_true _
      go_wp2_with fail
      refine HS2.out.mono ?_
      rintro e w7 ⟨rfl, hb7⟩
      have k7 := k6.trans (hb7.mono k6.size)
      have hr7 := hr6.on hb7
      have hT1 := total_any A5 n c5 S w7 hr7 hc5 (by omega) (by omega)
      rw [htsw] at hT1
      have HT1 := Lib.hid hT1
      clear hT1 hb7 k6 hr6 HS2
      go_wp2_with fail
      refine HT1.out.mono ?_
      rintro e w8 ⟨rfl, hb8⟩
      have k8 := k7.trans (hb8.mono k7.size)
      clear hb8 k7 hr7 HT1
      go_wp2_with fail
      refine (total_any (some adZ) n c2 Z w8 (HRL.out w8 k8) hc2 (by omega) (by omega)).mono ?_
      rintro e w9 ⟨rfl, hb9⟩
      have k9 := k8.trans (hb9.mono k8.size)
      clear hb9 k8
      have hself2 : ((ticks Z : Int) == (ticks Z : Int)) = true := beq_self_eq_true _
      go_wp2_with fail
      refine (known8_any H w9).mono ?_
      rintro e w10 ⟨rfl, hb10⟩
      have k10 := k9.trans (hb10.mono k9.size)
      go_wp2_with fail
      go_ret
      exact Ans.mk rfl (HK3.out.trans (k10.mono HK3.out.size))
    · have p1 : (xp == (-1 : Int)) = false := beq_eq_false_iff_ne.2 px
      by_cases py : yp = -1
      · have p2 : (yp == (-1 : Int)) = true := beq_iff_eq.2 py
        have hV : sameD 4 (depF bs) Z S = true := by rw [HTD.out]; simp [py]
        clear HTD px py
        go_wp2_with fail
        have hSw := H.swap (some adZ) n c2 Z (k : Int) w4 (HRL.out w4 kq) hc2 (by omega) (by omega) (by omega)
        rw [HSZ.out] at hSw
        refine hSw.mono ?_
        clear hSw
        intro e w5 he
        obtain ⟨A5, c5, rfl, hr5, hc5, hb5⟩ := he
        rw [HSL.out] at hr5 hc5 ⊢
        have k5 := kq.trans (hb5.mono kq.size)
        have hS1 := H.same (some adZ) A5 A3 n n 4 c2 c5 c3 Z S (depF bs) w5 (HRL.out w5 k5) hr5 (HRD.out w5 k5) hc2 hc5 (by omega) (by omega) (by omega) (by omega) (by omega)
        change Calls _ _ _ _ (Ans (.bool (sameD 4 (depF bs) Z S)) w5) at hS1
        rw [hV] at hS1
        have HS1 := Lib.hid hS1
        clear hS1
        go_wp2_with fail
        refine HS1.out.mono ?_
        rintro e w6 ⟨rfl, hb6⟩
        have k6 := k5.trans (hb6.mono k5.size)
        have hr6 := hr5.on hb6
        have hS2 := H.same A5 (some adZ) A3 n n 4 c5 c2 c3 S Z (depF bs) w6 hr6 (HRL.out w6 k6) (HRD.out w6 k6) hc5 hc2 (by omega) (by omega) (by omega) (by omega) (by omega)
        change Calls _ _ _ _ (Ans (.bool (sameD 4 (depF bs) S Z)) w6) at hS2
        rw [sameD_sym, hV] at hS2
        have HS2 := Lib.hid hS2
        clear hS2 hV HS1 hb6 k5 hr5
        have hself : ((true : Bool) == true) = true := beq_self_eq_true _
        go_wp2_with fail
        refine HS2.out.mono ?_
        rintro e w7 ⟨rfl, hb7⟩
        have k7 := k6.trans (hb7.mono k6.size)
        have hr7 := hr6.on hb7
        have hT1 := total_any A5 n c5 S w7 hr7 hc5 (by omega) (by omega)
        rw [htsw] at hT1
        have HT1 := Lib.hid hT1
        clear hT1 hb7 k6 hr6 HS2
        go_wp2_with fail
        refine HT1.out.mono ?_
        rintro e w8 ⟨rfl, hb8⟩
        have k8 := k7.trans (hb8.mono k7.size)
        clear hb8 k7 hr7 HT1
        go_wp2_with fail
        refine (total_any (some adZ) n c2 Z w8 (HRL.out w8 k8) hc2 (by omega) (by omega)).mono ?_
        rintro e w9 ⟨rfl, hb9⟩
        have k9 := k8.trans (hb9.mono k8.size)
        clear hb9 k8
        have hself2 : ((ticks Z : Int) == (ticks Z : Int)) = true := beq_self_eq_true _
        go_wp2_with fail
        refine (known8_any H w9).mono ?_
        rintro e w10 ⟨rfl, hb10⟩
        have k10 := k9.trans (hb10.mono k9.size)
        go_wp2_with fail
        go_ret
        exact Ans.mk rfl (HK3.out.trans (k10.mono HK3.out.size))
      · have p2 : (yp == (-1 : Int)) = false := beq_eq_false_iff_ne.2 py
        obtain ⟨u, rfl⟩ : ∃ u : Nat, xp = u := ⟨xp.toNat, by omega⟩
        obtain ⟨v, rfl⟩ : ∃ v : Nat, yp = v := ⟨yp.toNat, by omega⟩
        have hu4 : u < 4 := by omega
        have hv4 : v < 4 := by omega
        obtain ⟨ad3, R, cR, rfl, _, e0, _, hrow⟩ := (HRD.out w4 kq).at_ hu4
        obtain ⟨aR, rfl, _, e1⟩ := hrow.at_ hv4
        have hV : sameD 4 (depF bs) Z S = !depF bs u v := by rw [HTD.out]; simp [px, py]
        generalize depF bs u v = d at e1 hV
        have hui : (u : Int) < 4 := by omega
        have hvi : (v : Int) < 4 := by omega
        clear HTD px py hrow
        go_wp2_with fail
        have hSw := H.swap (some adZ) n c2 Z (k : Int) w4 (HRL.out w4 kq) hc2 (by omega) (by omega) (by omega)
        rw [HSZ.out] at hSw
        refine hSw.mono ?_
        clear hSw
        intro e w5 he
        obtain ⟨A5, c5, rfl, hr5, hc5, hb5⟩ := he
        rw [HSL.out] at hr5 hc5 ⊢
        have k5 := kq.trans (hb5.mono kq.size)
        have hS1 := H.same (some adZ) A5 (some ad3) n n 4 c2 c5 c3 Z S (depF bs) w5 (HRL.out w5 k5) hr5 (HRD.out w5 k5) hc2 hc5 (by omega) (by omega) (by omega) (by omega) (by omega)
        change Calls _ _ _ _ (Ans (.bool (sameD 4 (depF bs) Z S)) w5) at hS1
        rw [hV] at hS1
        have HS1 := Lib.hid hS1
        clear hS1
        go_wp2_with fail
        refine HS1.out.mono ?_
        rintro e w6 ⟨rfl, hb6⟩
        have k6 := k5.trans (hb6.mono k5.size)
        have hr6 := hr5.on hb6
        have hS2 := H.same A5 (some adZ) (some ad3) n n 4 c5 c2 c3 S Z (depF bs) w6 hr6 (HRL.out w6 k6) (HRD.out w6 k6) hc5 hc2 (by omega) (by omega) (by omega) (by omega) (by omega)
        change Calls _ _ _ _ (Ans (.bool (sameD 4 (depF bs) S Z)) w6) at hS2
        rw [sameD_sym, hV] at hS2
        have HS2 := Lib.hid hS2
        clear hS2 hV HS1 hb6 k5 hr5
        have hself : (((!d) : Bool) == (!d)) = true := beq_self_eq_true _
        go_wp2_with fail
        refine HS2.out.mono ?_
        rintro e w7 ⟨rfl, hb7⟩
        have k7 := k6.trans (hb7.mono k6.size)
        have hr7 := hr6.on hb7
        have hT1 := total_any A5 n c5 S w7 hr7 hc5 (by omega) (by omega)
        rw [htsw] at hT1
        have HT1 := Lib.hid hT1
        clear hT1 hb7 k6 hr6 HS2
        go_wp2_with fail
        refine HT1.out.mono ?_
        rintro e w8 ⟨rfl, hb8⟩
        have k8 := k7.trans (hb8.mono k7.size)
        clear hb8 k7 hr7 HT1
        go_wp2_with fail
        refine (total_any (some adZ) n c2 Z w8 (HRL.out w8 k8) hc2 (by omega) (by omega)).mono ?_
        rintro e w9 ⟨rfl, hb9⟩
        have k9 := k8.trans (hb9.mono k8.size)
        clear hb9 k8
        have hself2 : ((ticks Z : Int) == (ticks Z : Int)) = true := beq_self_eq_true _
        go_wp2_with fail
        refine (known8_any H w9).mono ?_
        rintro e w10 ⟨rfl, hb10⟩
        have k10 := k9.trans (hb10.mono k9.size)
        go_wp2_with fail
        go_ret
        exact Ans.mk rfl (HK3.out.trans (k10.mono HK3.out.size))
end Go.Proofs.Ytcdgofdnafbacaa.wordTurns
