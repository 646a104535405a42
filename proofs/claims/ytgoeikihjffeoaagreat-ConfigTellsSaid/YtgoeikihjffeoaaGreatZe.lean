/- Package config: where a configuration is wrong, whether it is right. -/
import Derived.Test.YtgoeikihjffeoaaGreatZd
import Derived.Deep.RegionWith
namespace Go.Proofs.YtgoeikihjffeoaaGreat
open Go.RowKit Tab
set_option linter.unusedSimpArgs false
set_option linter.unusedVariables false

set_option maxRecDepth 100000 in
set_option maxHeartbeats 4000000 in
theorem cwhere_any (A1 A2 A3 : Option Addr) (n1 n2 n3 c1 c2 c3 : Nat) (P : List Pq) (C : List ChV) (T : List NdT) (w : World) (hP : RdB pcq w w.heap.size A1 n1 P) (hC : RdB cc w w.heap.size A2 n2 C) (hT : RdB tcn w w.heap.size A3 n3 T)
    (hp : ∀ x ∈ P, PtAx w w.heap.size x) (ht : ∀ t ∈ T, NdAt w w.heap.size t) (hk : n1 ≤ c1) :
    Calls Tryz.prog 22 #[.agg #[.slice A1 n1 c1, .slice A2 n2 c2, .slice A3 n3 c3]] w (Ans (.tuple #[.int .i64 (whereF P C T).1, .int .i64 (whereF P C T).2]) w) := by
  have hb0 := bl1 w (.cells #[.slice A1 n1 c1, .slice A2 n2 c2, .slice A3 n3 c3] 26)
  have e1 := hP.len
  have e2 := hC.len
  have e3 := hT.len
  have WBIG : Hid (¬ (1 ≤ n1 ∧ n1 ≤ 6 ∧ n2 ≤ 8 ∧ 1 ≤ n3 ∧ n3 ≤ 3) → whereF P C T = (3, 0)) := Lib.hid fun h => whereF_big (by unfold sizesB; rw [e1, e2, e3]; exact h)
  have WP : Hid ((1 ≤ n1 ∧ n1 ≤ 6 ∧ n2 ≤ 8 ∧ 1 ≤ n3 ∧ n3 ≤ 3) → ∀ i, i < n1 → (∀ j, j < i → ptE P j = 0) → ptE P i ≠ 0 → whereF P C T = (ptE P i, (i : Int))) := Lib.hid fun h i hi => whereF_part (by unfold sizesB; rw [e1, e2, e3]; exact h) (by omega)
  have WC : Hid ((1 ≤ n1 ∧ n1 ≤ 6 ∧ n2 ≤ 8 ∧ 1 ≤ n3 ∧ n3 ≤ 3) → (∀ j, j < n1 → ptE P j = 0) → ∀ i, i < n2 → (∀ j, j < i → chE C n1 j = 0) → chE C n1 i ≠ 0 → whereF P C T = (chE C n1 i, (i : Int))) := Lib.hid fun h hp i hi => by
    have := whereF_chan (T := T) (by unfold sizesB; rw [e1, e2, e3]; exact h) (by rw [e1]; exact hp) (i := i) (by omega)
    rw [e1] at this
    exact this
  have WT : Hid ((1 ≤ n1 ∧ n1 ≤ 6 ∧ n2 ≤ 8 ∧ 1 ≤ n3 ∧ n3 ≤ 3) → (∀ j, j < n1 → ptE P j = 0) → (∀ j, j < n2 → chE C n1 j = 0) → ∀ i, i < n3 → (∀ j, j < i → tbE P C T j = 0) → tbE P C T i ≠ 0 → whereF P C T = (tbE P C T i, (i : Int))) := Lib.hid fun h hp hc i hi =>
    whereF_tab (by unfold sizesB; rw [e1, e2, e3]; exact h) (by rw [e1]; exact hp) (by rw [e1, e2]; exact hc) (i := i) (by omega)
  have WOK : Hid ((1 ≤ n1 ∧ n1 ≤ 6 ∧ n2 ≤ 8 ∧ 1 ≤ n3 ∧ n3 ≤ 3) → (∀ j, j < n1 → ptE P j = 0) → (∀ j, j < n2 → chE C n1 j = 0) → (∀ j, j < n3 → tbE P C T j = 0) → whereF P C T = (0, -1)) := Lib.hid fun h hp hc ht =>
    whereF_ok (by unfold sizesB; rw [e1, e2, e3]; exact h) (by rw [e1]; exact hp) (by rw [e1, e2]; exact hc) (by rw [e3]; exact ht)
  have HPM : Hid (∀ x ∈ P, In64 x.1.per) := Lib.hid fun x hx => (hp x hx).per
  generalize whereF P C T = V at WBIG WP WC WT WOK ⊢
  obtain ⟨V1, V2⟩ := V
  dsimp only at WBIG WP WC WT WOK ⊢
  have HFQ : Hid ((wiF (n1 : Int) 1 6 && (decide (n2 ≤ 8) && wiF (n3 : Int) 1 3)) = decide (1 ≤ n1 ∧ n1 ≤ 6 ∧ n2 ≤ 8 ∧ 1 ≤ n3 ∧ n3 ≤ 3)) := Lib.hid (by
    rw [show wiF (n1 : Int) 1 6 = (decide (1 ≤ n1) && decide (n1 ≤ 6)) from wiF_nat n1 1 6, show wiF (n3 : Int) 1 3 = (decide (1 ≤ n3) && decide (n3 ≤ 3)) from wiF_nat n3 1 3]
    simp only [Bool.decide_and, Bool.and_assoc])
  have HFW := Lib.hid fun V => fw_any A1 A2 A3 n1 n2 n3 c1 c2 c3 V
  rw [HFQ.out] at HFW
  have HP := Lib.hid hP
  have HC := Lib.hid hC
  have HT := Lib.hid hT
  have HPT := Lib.hid hp
  have HTT := Lib.hid ht
  have m0 : (w.alloc (.cells #[.slice A1 n1 c1, .slice A2 n2 c2, .slice A3 n3 c3] 26)).cell? ⟨w.heap.size, 0, none⟩ = some (.slice A1 n1 c1) := World.cell?_alloc_mark _ _ _ _ _
  have m1 : (w.alloc (.cells #[.slice A1 n1 c1, .slice A2 n2 c2, .slice A3 n3 c3] 26)).cell? ⟨w.heap.size, 1, none⟩ = some (.slice A2 n2 c2) := World.cell?_alloc_mark _ _ _ _ _
  have m2 : (w.alloc (.cells #[.slice A1 n1 c1, .slice A2 n2 c2, .slice A3 n3 c3] 26)).cell? ⟨w.heap.size, 2, none⟩ = some (.slice A3 n3 c3) := World.cell?_alloc_mark _ _ _ _ _
  have hgs : w.heap.size < (w.alloc (.cells #[.slice A1 n1 c1, .slice A2 n2 c2, .slice A3 n3 c3] 26)).heap.size := by simp
  clear hP hC hT hp ht e1 e2 e3 HFQ
  go_enter Tryz.func22, Tryz.ntmps22
  go_upto_region 1 with fail
  generalize w.alloc (.cells #[.slice A1 n1 c1, .slice A2 n2 c2, .slice A3 n3 c3] 26) = W at hb0 m0 m1 m2 hgs ⊢
  obtain ⟨g, hg⟩ : ∃ g, g = w.heap.size := ⟨_, rfl⟩
  rw [← hg] at m0 m1 m2 hgs ⊢
  have HG := Lib.hid hg
  have HM := Lib.hid fun (W' : World) (hb : Below W.heap.size W W') (o : Nat) (v : Value) (hv : W.cell? ⟨g, o, none⟩ = some v) => (hb.cell (p := ⟨g, o, none⟩) hgs).trans hv
  have HW := Lib.hid fun (W' : World) (hb : Below W.heap.size W W') => hb0.trans (hb.mono hb0.size)
  have M0 := Lib.hid m0
  have M1 := Lib.hid m1
  have M2 := Lib.hid m2
  clear hg hb0
  go_wp2_with fail
  refine (HFW.out W).mono ?_
  rintro e w1 ⟨rfl, hb1⟩
  have HB1 := Lib.hid hb1
  clear m0 m1 m2 HFW hb1
  by_cases qz : 1 ≤ n1 ∧ n1 ≤ 6 ∧ n2 ≤ 8 ∧ 1 ≤ n3 ∧ n3 ≤ 3
  case neg =>
    have hd : decide (1 ≤ n1 ∧ n1 ≤ 6 ∧ n2 ≤ 8 ∧ 1 ≤ n3 ∧ n3 ≤ 3) = false := decide_eq_false qz
    have hv := WBIG.out qz
    injection hv with hv1 hv2
    subst hv1 hv2
    rw [hd]
    clear WBIG WP WC WT WOK hd qz
    go_wp2_with fail
    go_ret2
    exact Ans.mk rfl (HW.out _ HB1.out)
  have hd : decide (1 ≤ n1 ∧ n1 ≤ 6 ∧ n2 ≤ 8 ∧ 1 ≤ n3 ∧ n3 ≤ 3) = true := decide_eq_true qz
  rw [hd]
  clear hd
  have WP := Lib.hid (WP.out qz)
  have WC := Lib.hid (WC.out qz)
  have WT := Lib.hid (WT.out qz)
  have WOK := Lib.hid (WOK.out qz)
  have r0 : 1 ≤ n1 := qz.1
  have r1 : n1 ≤ 6 := qz.2.1
  have r2 : n2 ≤ 8 := qz.2.2.1
  have r3 : n3 ≤ 3 := qz.2.2.2.2
  have m0 := HM.out w1 HB1.out 0 _ M0.out
  clear WBIG qz
  go_wp2_with fail
  clear m0
  go_loopw [4, 5, 6, 18] (fun _ _ _ s wr => ∃ i : Nat, i ≤ n1 ∧ s = .int .i64 i ∧ (∀ j, j < i → ptE P j = 0) ∧ Below W.heap.size W wr) (fun _ _ _ s _ => n1 - (intOf s).toNat)
  case atStart => exact ⟨0, by omega, rfl, fun j hj => by omega, HB1.out⟩
  case round =>
    obtain ⟨i, hi, rfl, hok, hb⟩ := hrel
    have HOK := Lib.hid hok
    clear hok
    by_cases hlt : i < n1
    · obtain ⟨ad, x, rfl, had, hx, c0, ck⟩ := (HP.out.on (HW.out _ hb)).at_ pcq_len (by omega) hlt
      have hPA := (HPT.out x (List.mem_of_getElem? hx)).on (HW.out _ hb)
      have d0 := c0 _ rfl
      have d1 := ck 1 _ (by omega) rfl
      have d2 := ck 2 _ (by omega) rfl
      have d3 := ck 3 _ (by omega) rfl
      have d4 := ck 4 _ (by omega) rfl
      have d5 := ck 5 _ (by omega) rfl
      have d6 := ck 6 _ (by omega) rfl
      have d7 := ck 7 _ (by omega) rfl
      have d8 := ck 8 _ (by omega) rfl
      have d9 := ck 9 _ (by omega) rfl
      have d10 := ck 10 _ (by omega) rfl
      have hpe : ptE P i = paF (P.take i) x := by
        rw [paF_ptW]
        unfold ptE
        rw [hx]
      have HWP := Lib.hid (WP.out i hlt HOK.out)
      have HNX := Lib.hid fun (h : ptE P i = 0) => lt_more (p := fun j => ptE P j = 0) HOK.out h
      have HPC := Lib.hid fun V (hv : Below wr.heap.size wr V) => prt_any x (some ad) i c1 (P.take i) V (hPA.on hv).procs hPA.name (((HP.out.on (HW.out _ hb)).on hv).tak (by omega)) (by omega)
      rw [← hpe] at HPC
      generalize ptE P i = z at HWP HNX HPC
      obtain ⟨⟨nm, bu, pe, sc, st, pa, pn, pc, h0, h1, h2, h3, h4⟩, L⟩ := x
      dsimp only at d0 d1 d2 d3 d4 d5 d6 d7 d8 d9 d10
      dsimp only [pv] at HPC
      have hbx := bl1 wr (.cells #[.string nm, .int .i64 bu, .int .i64 pe, .bool sc, .bool st, .slice pa pn pc, .int .i64 h0, .int .i64 h1, .int .i64 h2, .int .i64 h3, .int .i64 h4] 49)
      have HPC := Lib.hid fun V (hv : Below (wr.alloc (.cells #[.string nm, .int .i64 bu, .int .i64 pe, .bool sc, .bool st, .slice pa pn pc, .int .i64 h0, .int .i64 h1, .int .i64 h2, .int .i64 h3, .int .i64 h4] 49)).heap.size (wr.alloc (.cells #[.string nm, .int .i64 bu, .int .i64 pe, .bool sc, .bool st, .slice pa pn pc, .int .i64 h0, .int .i64 h1, .int .i64 h2, .int .i64 h3, .int .i64 h4] 49)) V) => HPC.out V (hbx.trans (hv.mono hbx.size))
      have HB2 := Lib.hid (hb.trans (hbx.mono hb.size))
      have hki : i ≤ c1 := by omega
      clear c0 ck hx hPA hpe HOK
      go_upto_region 6 with fail
      have m0 := HM.out _ HB2.out 0 _ M0.out
      have HF : Hid (∀ o v, (#[Value.string nm, .int .i64 bu, .int .i64 pe, .bool sc, .bool st, .slice pa pn pc, .int .i64 h0, .int .i64 h1, .int .i64 h2, .int .i64 h3, .int .i64 h4] : Array Value)[o]? = some v → (wr.alloc (.cells #[.string nm, .int .i64 bu, .int .i64 pe, .bool sc, .bool st, .slice pa pn pc, .int .i64 h0, .int .i64 h1, .int .i64 h2, .int .i64 h3, .int .i64 h4] 49)).cell? ⟨wr.heap.size, o, none⟩ = some v) := Lib.hid fun o v hv => (World.cell?_alloc_mark _ _ _ _ _).trans hv
      generalize wr.alloc (.cells #[.string nm, .int .i64 bu, .int .i64 pe, .bool sc, .bool st, .slice pa pn pc, .int .i64 h0, .int .i64 h1, .int .i64 h2, .int .i64 h3, .int .i64 h4] 49) = W5 at HPC HB2 HF m0 ⊢
      generalize wr.heap.size = gx at HF ⊢
      have f0 := HF.out 0 _ rfl
      have f1 := HF.out 1 _ rfl
      have f2 := HF.out 2 _ rfl
      have f3 := HF.out 3 _ rfl
      have f4 := HF.out 4 _ rfl
      have f5 := HF.out 5 _ rfl
      have f6 := HF.out 6 _ rfl
      have f7 := HF.out 7 _ rfl
      have f8 := HF.out 8 _ rfl
      have f9 := HF.out 9 _ rfl
      have f10 := HF.out 10 _ rfl
      clear HF d0 d1 d2 d3 d4 d5 d6 d7 d8 d9 d10 hbx hb
      go_region_with (go_at_call 51; refine (HPC.out _ (by first | exact Below.refl _ _ | exact (Below.refl _ _).drew | exact Below.drewN (Below.refl _ _) _)).mono ?_; rintro e w6 ⟨rfl, hb6⟩)
      all_goals
        have HB6 : Hid (Below W.heap.size W w6) := Lib.hid (by first | exact HB2.out.trans (hb6.mono HB2.out.size) | exact HB2.out.trans (Below.mono (Below.trans (Below.refl _ _).drew hb6) HB2.out.size))
        clear hb6 f0 f1 f2 f3 f4 f5 f6 f7 f8 f9 f10 m0
        by_cases hz : z = 0
        · have hzd : (z != 0) = false := by rw [hz]; rfl
          have HN := Lib.hid (HNX.out hz)
          clear HNX HWP
          subst hz
          go_wp2_with fail
          go_roundw
          case rel => exact ⟨i + 1, by omega, by go_num, HN.out, HB6.out⟩
          case measure => simp [intOf]; omega
        · have hzd : (z != 0) = true := bne_iff_ne.2 hz
          have hv := HWP.out hz
          injection hv with hv1 hv2
          subst hv1 hv2
          clear HNX HWP WP WC WT WOK
          go_wp2_with fail
          go_ret2
          exact Ans.mk rfl (HW.out _ HB6.out)
    · have hge : n1 ≤ i := by omega
      have HPK : Hid (∀ j, j < n1 → ptE P j = 0) := Lib.hid fun j hj => HOK.out j (by omega)
      have WC2 := Lib.hid (WC.out HPK.out)
      have WT2 := Lib.hid (WT.out HPK.out)
      have WOK2 := Lib.hid (WOK.out HPK.out)
      have m1 := HM.out wr hb 1 _ M1.out
      clear WP WC WT WOK HOK
      go_wp2_with fail
      clear m1
      go_loopw [7, 8, 37] (fun _ _ s wx => ∃ j : Nat, j ≤ n2 ∧ s = .int .i64 j ∧ (∀ k, k < j → chE C n1 k = 0) ∧ Below W.heap.size W wx) (fun _ _ s _ => n2 - (intOf s).toNat)
      case atStart => exact ⟨0, by omega, rfl, fun k hk => by omega, hb⟩
      case round =>
        obtain ⟨j, hj, rfl, hok, hb⟩ := hrel
        have HOK := Lib.hid hok
        clear hok
        by_cases hlt : j < n2
        · obtain ⟨ad, x, rfl, had, hx, c0, ck⟩ := (HC.out.on (HW.out _ hb)).at_ cc_len (by omega) hlt
          have d0 := c0 _ rfl
          have d1 := ck 1 _ (by omega) rfl
          have d2 := ck 2 _ (by omega) rfl
          have d3 := ck 3 _ (by omega) rfl
          have d4 := ck 4 _ (by omega) rfl
          have d5 := ck 5 _ (by omega) rfl
          have HE := Lib.hid (chE_at (n := n1) hx)
          have HWC := Lib.hid (WC2.out j hlt HOK.out)
          have HNX := Lib.hid fun (h : chE C n1 j = 0) => lt_more (p := fun j => chE C n1 j = 0) HOK.out h
          obtain ⟨xf, xt, xq, xc, xm, xl⟩ := x
          dsimp only at d0 d1 d2 d3 d4 d5
          have hbx := bl1 wr (.cells #[.int .i64 xf, .int .i64 xt, .bool xq, .int .i64 xc, .int .u32 xm, .int .i64 xl] 57)
          have HB1 := Lib.hid (hb.trans (hbx.mono hb.size))
          have m0 := HM.out _ HB1.out 0 _ M0.out
          have HCR := Lib.hid fun V => chn_any ⟨xf, xt, xq, xc, xm, xl⟩ n1 (by omega) V
          generalize chanF ⟨xf, xt, xq, xc, xm, xl⟩ (n1 : Int) = b at HCR HE
          clear c0 ck hx hbx HOK
          go_wp2_with fail
          refine (HCR.out _).mono ?_
          rintro e w5 ⟨rfl, hb5⟩
          have HB5 := Lib.hid (HB1.out.trans (hb5.mono HB1.out.size))
          clear hb5 d0 d1 d2 d3 d4 d5 m0
          cases b
          · have k17 : chE C n1 j = 17 := HE.out
            have hv := HWC.out (by rw [k17]; decide)
            rw [k17] at hv
            injection hv with hv1 hv2
            subst hv1 hv2
            clear HE HWC HNX k17 WC2 WT2 WOK2
            go_wp2_with fail
            go_ret2
            exact Ans.mk rfl (HW.out _ HB5.out)
          · have k0 : chE C n1 j = 0 := HE.out
            have HNX2 := Lib.hid (HNX.out k0)
            clear k0 HE HWC HNX
            go_wp2_with fail
            go_roundw
            case rel => exact ⟨j + 1, by omega, by go_num, HNX2.out, HB5.out⟩
            case measure => simp [intOf]; omega
        · have hge : n2 ≤ j := by omega
          have HCK : Hid (∀ k, k < n2 → chE C n1 k = 0) := Lib.hid fun k hk => HOK.out k (by omega)
          have WT3 := Lib.hid (WT2.out HCK.out)
          have WOK3 := Lib.hid (WOK2.out HCK.out)
          have m2 := HM.out wr hb 2 _ M2.out
          clear WC2 WT2 WOK2 HOK
          go_wp2_with fail
          clear m2
          go_loopw [9, 10, 11, 53] (fun _ _ _ s wx => ∃ j : Nat, j ≤ n3 ∧ s = .int .i64 j ∧ (∀ k, k < j → tbE P C T k = 0) ∧ Below W.heap.size W wx) (fun _ _ _ s _ => n3 - (intOf s).toNat)
          case atStart => exact ⟨0, by omega, rfl, fun k hk => by omega, hb⟩
          case round =>
            obtain ⟨j, hj, rfl, hok, hb⟩ := hrel
            have HOK := Lib.hid hok
            clear hok
            by_cases hlt : j < n3
            · obtain ⟨ad, t, rfl, had, hx, c0, ck⟩ := (HT.out.on (HW.out _ hb)).at_ tcn_len (by omega) hlt
              have d0 := c0 _ rfl
              rw [Nat.mul_one] at d0
              have hTA := (HTT.out t (List.mem_of_getElem? hx)).on (HW.out _ hb)
              have HTE := Lib.hid (tbE_at (P := P) (C := C) hx)
              have HWT := Lib.hid (WT3.out j hlt HOK.out)
              have HNX := Lib.hid fun (h : tbE P C T j = 0) => lt_more (p := fun j => tbE P C T j = 0) HOK.out h
              have HTB := Lib.hid (tbl_any A1 A2 (some ad) n1 n2 n3 c1 c2 c3 P C t wr (HP.out.on (HW.out _ hb)) (HC.out.on (HW.out _ hb)) HPM.out hTA (by omega) (by omega))
              have m0 := HM.out wr hb 0 _ M0.out
              have m1 := HM.out wr hb 1 _ M1.out
              have m2 := HM.out wr hb 2 _ M2.out
              rw [← HTE.out] at HTB
              generalize tbE P C T j = z at HWT HNX HTB
              obtain ⟨A, n, c, ll⟩ := t
              dsimp only at d0 HTB
              clear c0 ck hx hTA HTE HOK
              go_wp2_with fail
              refine HTB.out.mono ?_
              rintro e w5 ⟨rfl, hb5⟩
              have HB6 := Lib.hid (hb.trans (hb5.mono hb.size))
              clear hb5 d0 m0 m1 m2 HTB
              by_cases hz : z = 0
              · have hzd : (z != 0) = false := by rw [hz]; rfl
                have HN := Lib.hid (HNX.out hz)
                clear HNX HWT
                subst hz
                go_wp2_with fail
                go_roundw
                case rel => exact ⟨j + 1, by omega, by go_num, HN.out, HB6.out⟩
                case measure => simp [intOf]; omega
              · have hzd : (z != 0) = true := bne_iff_ne.2 hz
                have hv := HWT.out hz
                injection hv with hv1 hv2
                subst hv1 hv2
                clear HNX HWT WT3 WOK3
                go_wp2_with fail
                go_ret2
                exact Ans.mk rfl (HW.out _ HB6.out)
            · have hge : n3 ≤ j := by omega
              have hv := WOK3.out fun k hk => HOK.out k (by omega)
              injection hv with hv1 hv2
              subst hv1 hv2
              clear WT3 WOK3 HOK
              go_wp2_with fail
              go_ret2
              exact Ans.mk rfl (HW.out _ hb)
set_option maxRecDepth 100000 in
theorem cfright_any (A1 A2 A3 : Option Addr) (n1 n2 n3 c1 c2 c3 : Nat) (P : List Pq) (C : List ChV) (T : List NdT) (w : World) (hP : RdB pcq w w.heap.size A1 n1 P) (hC : RdB cc w w.heap.size A2 n2 C) (hT : RdB tcn w w.heap.size A3 n3 T)
    (hp : ∀ x ∈ P, PtAx w w.heap.size x) (ht : ∀ t ∈ T, NdAt w w.heap.size t) (hk : n1 ≤ c1) :
    Calls Tryz.prog 9 #[.agg #[.slice A1 n1 c1, .slice A2 n2 c2, .slice A3 n3 c3]] w (Ans (.int .i64 (whereF P C T).1) w) := by
  have hb0 := bl1 w (.cells #[.slice A1 n1 c1, .slice A2 n2 c2, .slice A3 n3 c3] 26)
  have HW := Lib.hid (cwhere_any A1 A2 A3 n1 n2 n3 c1 c2 c3 P C T _ (hP.on hb0) (hC.on hb0) (hT.on hb0) (fun x hx => (hp x hx).on hb0) (fun t ht' => (ht t ht').on hb0) hk)
  clear hP hC hT hp ht
  go_enter Tryz.func9, Tryz.ntmps9
  go_wp2_with fail
  refine HW.out.mono ?_
  rintro e w5 ⟨rfl, hb5⟩
  go_wp2_with fail
  go_ret
  exact Ans.mk rfl (hb0.trans (hb5.mono hb0.size))
end Go.Proofs.YtgoeikihjffeoaaGreat
