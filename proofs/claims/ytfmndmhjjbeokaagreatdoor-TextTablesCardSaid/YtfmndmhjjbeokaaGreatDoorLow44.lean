import Derived.Test.YtfmndmhjjbeokaaGreatDoorLow43
import Derived.Deep.RegionWith
import Derived.Test.YtfmndmhjjbeokaaGreatDoorLow26
import Derived.Test.YtfmndmhjjbeokaaGreatDoorLow28
import Derived.Test.YtfmndmhjjbeokaaGreatDoorLow34
import Derived.Test.YtfmndmhjjbeokaaGreatDoorLow24
import Derived.Test.YtfmndmhjjbeokaaGreatDoorLow23
import Derived.Deep.CutBlock
namespace Go.Proofs.YtfmndmhjjbeokaaGreatDoor
open Go.RowKit Tab
set_option linter.unusedSimpArgs false
set_option linter.unusedVariables false
set_option maxRecDepth 100000 in
set_option maxHeartbeats 4000000 in
theorem cwhere_any (A1 A2 A3 : Option Addr) (n1 n2 n3 c1 c2 c3 : Nat) (P : List Pq) (C : List ChV) (T : List NdT) (w : World) (hP : RdB pcq w w.heap.size A1 n1 P) (hC : RdB cc w w.heap.size A2 n2 C) (hT : RdB tcn w w.heap.size A3 n3 T)
    (hp : ∀ x ∈ P, PtAx w w.heap.size x) (ht : ∀ t ∈ T, NdAt w w.heap.size t) (hk : n1 ≤ c1) :
    Calls Tryz.prog 57 #[.agg #[.slice A1 n1 c1, .slice A2 n2 c2, .slice A3 n3 c3]] w (Ans (.tuple #[.int .i64 (whereF P C T).1, .int .i64 (whereF P C T).2]) w) := by
  have hb0 := bl1 w (.cells #[.slice A1 n1 c1, .slice A2 n2 c2, .slice A3 n3 c3] 31)
  have e1 := hP.len
  have e2 := hC.len
  have e3 := hT.len
  have WBIG : Hid (¬ (1 ≤ n1 ∧ n1 ≤ 6 ∧ n2 ≤ 8 ∧ 1 ≤ n3 ∧ n3 ≤ 3) → whereF P C T = (3, 0)) := Lib.hid fun h => whereF_big (by unfold sizesB; rw [e1, e2, e3]; exact h)
  have WP : Hid ((1 ≤ n1 ∧ n1 ≤ 6 ∧ n2 ≤ 8 ∧ 1 ≤ n3 ∧ n3 ≤ 3) → ∀ i, i < n1 → (∀ j, j < i → ptE P j = 0) → ptE P i ≠ 0 → whereF P C T = (ptE P i, (i : Int))) := Lib.hid fun h i hi => whereF_part (by unfold sizesB; rw [e1, e2, e3]; exact h) (by omega)
  have WC : Hid ((1 ≤ n1 ∧ n1 ≤ 6 ∧ n2 ≤ 8 ∧ 1 ≤ n3 ∧ n3 ≤ 3) → (∀ j, j < n1 → ptE P j = 0) → ∀ i, i < n2 → (∀ j, j < i → chE C n1 j = 0) → chE C n1 i ≠ 0 → whereF P C T = (chE C n1 i, (i : Int))) := Lib.hid fun h hp i hi => by
    have := whereF_chan (T := T) (by unfold sizesB; rw [e1, e2, e3]; exact h) (by rw [e1]; exact hp) (i := i) (by omega)
    rw [e1] at this
    exact this
  have WT : Hid ((1 ≤ n1 ∧ n1 ≤ 6 ∧ n2 ≤ 8 ∧ 1 ≤ n3 ∧ n3 ≤ 3) → (∀ j, j < n1 → ptE P j = 0) → (∀ j, j < n2 → chE C n1 j = 0) → ∀ i, i < n3 → (∀ j, j < i → tbE P C T j = 0) → tbE P C T i ≠ 0 → whereF P C T = (tbE P C T i, (i : Int))) := Lib.hid fun h hp hc i hi =>
    whereF_tab (by unfold sizesB; rw [e1, e2, e3]; exact h) (by rw [e1]; exact hp) (by rw [e1, e2]; exact hc) (i := i) (by omega)
  have WOK : Hid ((1 ≤ n1 ∧ n1 ≤ 6 ∧ n2 ≤ 8 ∧ 1 ≤ n3 ∧ n3 ≤ 3) → (∀ j, j < n1 → ptE P j = 0) → (∀ j, j < n2 → chE C n1 j = 0) → (∀ j, j < n3 → tbE P C T j = 0) → whereF P C T = (0, -1)) := Lib.hid fun h hp hc ht =>
    whereF_ok (by unfold sizesB; rw [e1, e2, e3]; exact h) (by rw [e1]; exact hp) (by rw [e1, e2]; exact hc) (by rw [e3]; exact ht)
  have HPM : Hid (∀ x ∈ P, In64 x.1.per) := Lib.hid fun x hx => (hp x hx).per
  generalize whereF P C T = V at WBIG WP WC WT WOK ⊢
  obtain ⟨V1, V2⟩ := V
  dsimp only at WBIG WP WC WT WOK ⊢
  have HFQ : Hid ((wiF (n1 : Int) 1 6 && (decide (n2 ≤ 8) && wiF (n3 : Int) 1 3)) = decide (1 ≤ n1 ∧ n1 ≤ 6 ∧ n2 ≤ 8 ∧ 1 ≤ n3 ∧ n3 ≤ 3)) := Lib.hid (by
    rw [show wiF (n1 : Int) 1 6 = (decide (1 ≤ n1) && decide (n1 ≤ 6)) from wiF_nat n1 1 6, show wiF (n3 : Int) 1 3 = (decide (1 ≤ n3) && decide (n3 ≤ 3)) from wiF_nat n3 1 3]
    simp only [Bool.decide_and, Bool.and_assoc])
  have HFW := Lib.hid fun V => fw_any A1 A2 A3 n1 n2 n3 c1 c2 c3 V
  rw [HFQ.out] at HFW
  have HP := Lib.hid hP
  have HC := Lib.hid hC
  have HT := Lib.hid hT
  have HPT := Lib.hid hp
  have HTT := Lib.hid ht
  have m0 : (w.alloc (.cells #[.slice A1 n1 c1, .slice A2 n2 c2, .slice A3 n3 c3] 31)).cell? ⟨w.heap.size, 0, none⟩ = some (.slice A1 n1 c1) := World.cell?_alloc_mark _ _ _ _ _
  have m1 : (w.alloc (.cells #[.slice A1 n1 c1, .slice A2 n2 c2, .slice A3 n3 c3] 31)).cell? ⟨w.heap.size, 1, none⟩ = some (.slice A2 n2 c2) := World.cell?_alloc_mark _ _ _ _ _
  have m2 : (w.alloc (.cells #[.slice A1 n1 c1, .slice A2 n2 c2, .slice A3 n3 c3] 31)).cell? ⟨w.heap.size, 2, none⟩ = some (.slice A3 n3 c3) := World.cell?_alloc_mark _ _ _ _ _
  have hgs : w.heap.size < (w.alloc (.cells #[.slice A1 n1 c1, .slice A2 n2 c2, .slice A3 n3 c3] 31)).heap.size := by simp
  clear hP hC hT hp ht e1 e2 e3 HFQ
  go_enter Tryz.func57, Tryz.ntmps57
  go_upto_region 1 with fail
  generalize w.alloc (.cells #[.slice A1 n1 c1, .slice A2 n2 c2, .slice A3 n3 c3] 31) = W at hb0 m0 m1 m2 hgs ⊢
  obtain ⟨g, hg⟩ : ∃ g, g = w.heap.size := ⟨_, rfl⟩
  rw [← hg] at m0 m1 m2 hgs ⊢
  have HG := Lib.hid hg
  have HM := Lib.hid fun (W' : World) (hb : Below W.heap.size W W') (o : Nat) (v : Value) (hv : W.cell? ⟨g, o, none⟩ = some v) => (hb.cell (p := ⟨g, o, none⟩) hgs).trans hv
  have HW := Lib.hid fun (W' : World) (hb : Below W.heap.size W W') => hb0.trans (hb.mono hb0.size)
  have M0 := Lib.hid m0
  have M1 := Lib.hid m1
  have M2 := Lib.hid m2
  clear hg hb0
  go_wp2_with fail
  refine (HFW.out W).mono ?_
  rintro e w1 ⟨rfl, hb1⟩
  have HB1 := Lib.hid hb1
  clear m0 m1 m2 HFW hb1
  by_cases qz : 1 ≤ n1 ∧ n1 ≤ 6 ∧ n2 ≤ 8 ∧ 1 ≤ n3 ∧ n3 ≤ 3
  case neg =>
    have hd : decide (1 ≤ n1 ∧ n1 ≤ 6 ∧ n2 ≤ 8 ∧ 1 ≤ n3 ∧ n3 ≤ 3) = false := decide_eq_false qz
    have hv := WBIG.out qz
    injection hv with hv1 hv2
    subst hv1 hv2
    rw [hd]
    clear WBIG WP WC WT WOK hd qz
    go_wp2_with fail
    go_ret2
    exact Ans.mk rfl (HW.out _ HB1.out)
  have hd : decide (1 ≤ n1 ∧ n1 ≤ 6 ∧ n2 ≤ 8 ∧ 1 ≤ n3 ∧ n3 ≤ 3) = true := decide_eq_true qz
  rw [hd]
  clear hd
  have WP := Lib.hid (WP.out qz)
  have WC := Lib.hid (WC.out qz)
  have WT := Lib.hid (WT.out qz)
  have WOK := Lib.hid (WOK.out qz)
  have r0 : 1 ≤ n1 := qz.1
  have r1 : n1 ≤ 6 := qz.2.1
  have r2 : n2 ≤ 8 := qz.2.2.1
  have r3 : n3 ≤ 3 := qz.2.2.2.2
  have m0 := HM.out w1 HB1.out 0 _ M0.out
  clear WBIG qz
  go_wp2_with fail
  clear m0
  go_loopw [4, 5, 6, 18] (fun _ _ _ s wr => ∃ i : Nat, i ≤ n1 ∧ s = .int .i64 i ∧ (∀ j, j < i → ptE P j = 0) ∧ Below W.heap.size W wr) (fun _ _ _ s _ => n1 - (intOf s).toNat)
  case atStart => exact ⟨0, by omega, rfl, fun j hj => by omega, HB1.out⟩
  case round =>
    obtain ⟨i, hi, rfl, hok, hb⟩ := hrel
    have HOK := Lib.hid hok
    clear hok
    by_cases hlt : i < n1
    · obtain ⟨ad, x, rfl, had, hx, c0, ck⟩ := (HP.out.on (HW.out _ hb)).at_ pcq_len (by omega) hlt
      have hPA := (HPT.out x (List.mem_of_getElem? hx)).on (HW.out _ hb)
      have d0 := c0 _ rfl
      have d1 := ck 1 _ (by omega) rfl
      have d2 := ck 2 _ (by omega) rfl
      have d3 := ck 3 _ (by omega) rfl
      have d4 := ck 4 _ (by omega) rfl
      have d5 := ck 5 _ (by omega) rfl
      have d6 := ck 6 _ (by omega) rfl
      have d7 := ck 7 _ (by omega) rfl
      have d8 := ck 8 _ (by omega) rfl
      have d9 := ck 9 _ (by omega) rfl
      have d10 := ck 10 _ (by omega) rfl
      have hpe : ptE P i = paF (P.take i) x := by
        rw [paF_ptW]
        unfold ptE
        rw [hx]
      have HWP := Lib.hid (WP.out i hlt HOK.out)
      have HNX := Lib.hid fun (h : ptE P i = 0) => lt_more (p := fun j => ptE P j = 0) HOK.out h
      have HPC := Lib.hid fun V (hv : Below wr.heap.size wr V) => prt_any x (some ad) i c1 (P.take i) V (hPA.on hv).procs hPA.name (((HP.out.on (HW.out _ hb)).on hv).tak (by omega)) (by omega)
      rw [← hpe] at HPC
      generalize ptE P i = z at HWP HNX HPC
      obtain ⟨⟨nm, bu, pe, sc, st, pa, pn, pc, h0, h1, h2, h3, h4⟩, L⟩ := x
      dsimp only at d0 d1 d2 d3 d4 d5 d6 d7 d8 d9 d10
      dsimp only [pv] at HPC
      have hbx := bl1 wr (.cells #[.string nm, .int .i64 bu, .int .i64 pe, .bool sc, .bool st, .slice pa pn pc, .int .i64 h0, .int .i64 h1, .int .i64 h2, .int .i64 h3, .int .i64 h4] 60)
      have HPC := Lib.hid fun V (hv : Below (wr.alloc (.cells #[.string nm, .int .i64 bu, .int .i64 pe, .bool sc, .bool st, .slice pa pn pc, .int .i64 h0, .int .i64 h1, .int .i64 h2, .int .i64 h3, .int .i64 h4] 60)).heap.size (wr.alloc (.cells #[.string nm, .int .i64 bu, .int .i64 pe, .bool sc, .bool st, .slice pa pn pc, .int .i64 h0, .int .i64 h1, .int .i64 h2, .int .i64 h3, .int .i64 h4] 60)) V) => HPC.out V (hbx.trans (hv.mono hbx.size))
      have HB2 := Lib.hid (hb.trans (hbx.mono hb.size))
      have hki : i ≤ c1 := by omega
      clear c0 ck hx hPA hpe HOK
      go_upto_region 6 with fail
      have m0 := HM.out _ HB2.out 0 _ M0.out
      have HF : Hid (∀ o v, (#[Value.string nm, .int .i64 bu, .int .i64 pe, .bool sc, .bool st, .slice pa pn pc, .int .i64 h0, .int .i64 h1, .int .i64 h2, .int .i64 h3, .int .i64 h4] : Array Value)[o]? = some v → (wr.alloc (.cells #[.string nm, .int .i64 bu, .int .i64 pe, .bool sc, .bool st, .slice pa pn pc, .int .i64 h0, .int .i64 h1, .int .i64 h2, .int .i64 h3, .int .i64 h4] 60)).cell? ⟨wr.heap.size, o, none⟩ = some v) := Lib.hid fun o v hv => (World.cell?_alloc_mark _ _ _ _ _).trans hv
      generalize wr.alloc (.cells #[.string nm, .int .i64 bu, .int .i64 pe, .bool sc, .bool st, .slice pa pn pc, .int .i64 h0, .int .i64 h1, .int .i64 h2, .int .i64 h3, .int .i64 h4] 60) = W5 at HPC HB2 HF m0 ⊢
      generalize wr.heap.size = gx at HF ⊢
      have f0 := HF.out 0 _ rfl
      have f1 := HF.out 1 _ rfl
      have f2 := HF.out 2 _ rfl
      have f3 := HF.out 3 _ rfl
      have f4 := HF.out 4 _ rfl
      have f5 := HF.out 5 _ rfl
      have f6 := HF.out 6 _ rfl
      have f7 := HF.out 7 _ rfl
      have f8 := HF.out 8 _ rfl
      have f9 := HF.out 9 _ rfl
      have f10 := HF.out 10 _ rfl
      clear HF d0 d1 d2 d3 d4 d5 d6 d7 d8 d9 d10 hbx hb
      go_region_with (go_at_call 94; refine (HPC.out _ (by first | exact Below.refl _ _ | exact (Below.refl _ _).drew | exact Below.drewN (Below.refl _ _) _)).mono ?_; rintro e w6 ⟨rfl, hb6⟩)
      all_goals
        have HB6 : Hid (Below W.heap.size W w6) := Lib.hid (by first | exact HB2.out.trans (hb6.mono HB2.out.size) | exact HB2.out.trans (Below.mono (Below.trans (Below.refl _ _).drew hb6) HB2.out.size))
        clear hb6 f0 f1 f2 f3 f4 f5 f6 f7 f8 f9 f10 m0
        by_cases hz : z = 0
        · have hzd : (z != 0) = false := by rw [hz]; rfl
          have HN := Lib.hid (HNX.out hz)
          clear HNX HWP
          subst hz
          go_wp2_with fail
          go_roundw
          case rel => exact ⟨i + 1, by omega, by go_num, HN.out, HB6.out⟩
          case measure => simp [intOf]; omega
        · have hzd : (z != 0) = true := bne_iff_ne.2 hz
          have hv := HWP.out hz
          injection hv with hv1 hv2
          subst hv1 hv2
          clear HNX HWP WP WC WT WOK
          go_wp2_with fail
          go_ret2
          exact Ans.mk rfl (HW.out _ HB6.out)
    · have hge : n1 ≤ i := by omega
      have HPK : Hid (∀ j, j < n1 → ptE P j = 0) := Lib.hid fun j hj => HOK.out j (by omega)
      have WC2 := Lib.hid (WC.out HPK.out)
      have WT2 := Lib.hid (WT.out HPK.out)
      have WOK2 := Lib.hid (WOK.out HPK.out)
      have m1 := HM.out wr hb 1 _ M1.out
      clear WP WC WT WOK HOK
      go_wp2_with fail
      clear m1
      go_loopw [7, 8, 37] (fun _ _ s wx => ∃ j : Nat, j ≤ n2 ∧ s = .int .i64 j ∧ (∀ k, k < j → chE C n1 k = 0) ∧ Below W.heap.size W wx) (fun _ _ s _ => n2 - (intOf s).toNat)
      case atStart => exact ⟨0, by omega, rfl, fun k hk => by omega, hb⟩
      case round =>
        obtain ⟨j, hj, rfl, hok, hb⟩ := hrel
        have HOK := Lib.hid hok
        clear hok
        by_cases hlt : j < n2
        · obtain ⟨ad, x, rfl, had, hx, c0, ck⟩ := (HC.out.on (HW.out _ hb)).at_ cc_len (by omega) hlt
          have d0 := c0 _ rfl
          have d1 := ck 1 _ (by omega) rfl
          have d2 := ck 2 _ (by omega) rfl
          have d3 := ck 3 _ (by omega) rfl
          have d4 := ck 4 _ (by omega) rfl
          have d5 := ck 5 _ (by omega) rfl
          have HE := Lib.hid (chE_at (n := n1) hx)
          have HWC := Lib.hid (WC2.out j hlt HOK.out)
          have HNX := Lib.hid fun (h : chE C n1 j = 0) => lt_more (p := fun j => chE C n1 j = 0) HOK.out h
          obtain ⟨xf, xt, xq, xc, xm, xl⟩ := x
          dsimp only at d0 d1 d2 d3 d4 d5
          have hbx := bl1 wr (.cells #[.int .i64 xf, .int .i64 xt, .bool xq, .int .i64 xc, .int .u32 xm, .int .i64 xl] 66)
          have HB1 := Lib.hid (hb.trans (hbx.mono hb.size))
          have m0 := HM.out _ HB1.out 0 _ M0.out
          have HCR := Lib.hid fun V => chn_any ⟨xf, xt, xq, xc, xm, xl⟩ n1 (by omega) V
          generalize chanF ⟨xf, xt, xq, xc, xm, xl⟩ (n1 : Int) = b at HCR HE
          clear c0 ck hx hbx HOK
          go_wp2_with fail
          refine (HCR.out _).mono ?_
          rintro e w5 ⟨rfl, hb5⟩
          have HB5 := Lib.hid (HB1.out.trans (hb5.mono HB1.out.size))
          clear hb5 d0 d1 d2 d3 d4 d5 m0
          cases b
          · have k17 : chE C n1 j = 17 := HE.out
            have hv := HWC.out (by rw [k17]; decide)
            rw [k17] at hv
            injection hv with hv1 hv2
            subst hv1 hv2
            clear HE HWC HNX k17 WC2 WT2 WOK2
            go_wp2_with fail
            go_ret2
            exact Ans.mk rfl (HW.out _ HB5.out)
          · have k0 : chE C n1 j = 0 := HE.out
            have HNX2 := Lib.hid (HNX.out k0)
            clear k0 HE HWC HNX
            go_wp2_with fail
            go_roundw
            case rel => exact ⟨j + 1, by omega, by go_num, HNX2.out, HB5.out⟩
            case measure => simp [intOf]; omega
        · have hge : n2 ≤ j := by omega
          have HCK : Hid (∀ k, k < n2 → chE C n1 k = 0) := Lib.hid fun k hk => HOK.out k (by omega)
          have WT3 := Lib.hid (WT2.out HCK.out)
          have WOK3 := Lib.hid (WOK2.out HCK.out)
          have m2 := HM.out wr hb 2 _ M2.out
          clear WC2 WT2 WOK2 HOK
          go_wp2_with fail
          clear m2
          go_loopw [9, 10, 11, 53] (fun _ _ _ s wx => ∃ j : Nat, j ≤ n3 ∧ s = .int .i64 j ∧ (∀ k, k < j → tbE P C T k = 0) ∧ Below W.heap.size W wx) (fun _ _ _ s _ => n3 - (intOf s).toNat)
          case atStart => exact ⟨0, by omega, rfl, fun k hk => by omega, hb⟩
          case round =>
            obtain ⟨j, hj, rfl, hok, hb⟩ := hrel
            have HOK := Lib.hid hok
            clear hok
            by_cases hlt : j < n3
            · obtain ⟨ad, t, rfl, had, hx, c0, ck⟩ := (HT.out.on (HW.out _ hb)).at_ tcn_len (by omega) hlt
              have d0 := c0 _ rfl
              rw [Nat.mul_one] at d0
              have hTA := (HTT.out t (List.mem_of_getElem? hx)).on (HW.out _ hb)
              have HTE := Lib.hid (tbE_at (P := P) (C := C) hx)
              have HWT := Lib.hid (WT3.out j hlt HOK.out)
              have HNX := Lib.hid fun (h : tbE P C T j = 0) => lt_more (p := fun j => tbE P C T j = 0) HOK.out h
              have HTB := Lib.hid (tbl_any A1 A2 (some ad) n1 n2 n3 c1 c2 c3 P C t wr (HP.out.on (HW.out _ hb)) (HC.out.on (HW.out _ hb)) HPM.out hTA (by omega) (by omega))
              have m0 := HM.out wr hb 0 _ M0.out
              have m1 := HM.out wr hb 1 _ M1.out
              have m2 := HM.out wr hb 2 _ M2.out
              rw [← HTE.out] at HTB
              generalize tbE P C T j = z at HWT HNX HTB
              obtain ⟨A, n, c, ll⟩ := t
              dsimp only at d0 HTB
              clear c0 ck hx hTA HTE HOK
              go_wp2_with fail
              refine HTB.out.mono ?_
              rintro e w5 ⟨rfl, hb5⟩
              have HB6 := Lib.hid (hb.trans (hb5.mono hb.size))
              clear hb5 d0 m0 m1 m2 HTB
              by_cases hz : z = 0
              · have hzd : (z != 0) = false := by rw [hz]; rfl
                have HN := Lib.hid (HNX.out hz)
                clear HNX HWT
                subst hz
                go_wp2_with fail
                go_roundw
                case rel => exact ⟨j + 1, by omega, by go_num, HN.out, HB6.out⟩
                case measure => simp [intOf]; omega
              · have hzd : (z != 0) = true := bne_iff_ne.2 hz
                have hv := HWT.out hz
                injection hv with hv1 hv2
                subst hv1 hv2
                clear HNX HWT WT3 WOK3
                go_wp2_with fail
                go_ret2
                exact Ans.mk rfl (HW.out _ HB6.out)
            · have hge : n3 ≤ j := by omega
              have hv := WOK3.out fun k hk => HOK.out k (by omega)
              injection hv with hv1 hv2
              subst hv1 hv2
              clear WT3 WOK3 HOK
              go_wp2_with fail
              go_ret2
              exact Ans.mk rfl (HW.out _ hb)
set_option maxRecDepth 100000 in
theorem cfright_any (A1 A2 A3 : Option Addr) (n1 n2 n3 c1 c2 c3 : Nat) (P : List Pq) (C : List ChV) (T : List NdT) (w : World) (hP : RdB pcq w w.heap.size A1 n1 P) (hC : RdB cc w w.heap.size A2 n2 C) (hT : RdB tcn w w.heap.size A3 n3 T)
    (hp : ∀ x ∈ P, PtAx w w.heap.size x) (ht : ∀ t ∈ T, NdAt w w.heap.size t) (hk : n1 ≤ c1) :
    Calls Tryz.prog 30 #[.agg #[.slice A1 n1 c1, .slice A2 n2 c2, .slice A3 n3 c3]] w (Ans (.int .i64 (whereF P C T).1) w) := by
  have hb0 := bl1 w (.cells #[.slice A1 n1 c1, .slice A2 n2 c2, .slice A3 n3 c3] 31)
  have HW := Lib.hid (cwhere_any A1 A2 A3 n1 n2 n3 c1 c2 c3 P C T _ (hP.on hb0) (hC.on hb0) (hT.on hb0) (fun x hx => (hp x hx).on hb0) (fun t ht' => (ht t ht').on hb0) hk)
  clear hP hC hT hp ht
  go_enter Tryz.func30, Tryz.ntmps30
  go_wp2_with fail
  refine HW.out.mono ?_
  rintro e w5 ⟨rfl, hb5⟩
  go_wp2_with fail
  go_ret
  exact Ans.mk rfl (hb0.trans (hb5.mono hb0.size))
end Go.Proofs.YtfmndmhjjbeokaaGreatDoor
namespace Go.Proofs.YtfmndmhjjbeokaaGreatDoor
open Go.RowKit Tab
set_option linter.unusedSimpArgs false
set_option linter.unusedVariables false
def numC (v : Option Value) : Int := match v with | some (.int _ z) => z | _ => 0
def prL (w : World) (A : Option Addr) (n : Nat) : List (Int × Int) := match A with
  | none => []
  | some ad => (List.range n).map fun i => (numC (w.cell? (ad.add (i * 2))), numC (w.cell? ⟨(ad.add (i * 2)).block, (ad.add (i * 2)).off + 1, none⟩))
def pq (w : World) (x : PtV) : Pq := (x, prL w x.pa x.pn)
theorem prL_same {w w' : World} {B n : Nat} {A : Option Addr} (h : ProcsAt w B A n) (hk : ∀ k, k < B → obk A = some k → w'.heap[k]? = w.heap[k]?) : prL w' A n = prL w A n := by
  by_cases h0 : 0 < n
  · obtain ⟨ad, e, p, rfl, hb, _⟩ := h 0 h0
    have hblk := hk ad.block hb rfl
    show (List.range n).map _ = (List.range n).map _
    refine List.map_congr_left fun i _ => ?_
    rw [World.cell?_of_block (w := w) (w' := w') (a := ad.add (i * 2)) (by rw [add_block]; exact hblk), World.cell?_of_block (w := w) (w' := w') (a := ⟨(ad.add (i * 2)).block, (ad.add (i * 2)).off + 1, none⟩) (by show w'.heap[(ad.add (i * 2)).block]? = w.heap[(ad.add (i * 2)).block]?; rw [add_block]; exact hblk)]
  · obtain rfl : n = 0 := by omega
    cases A <;> rfl
theorem pq_same {w w' : World} {B : Nat} {x : PtV} (h : ProcsAt w B x.pa x.pn) (hk : ∀ k, k < B → obk x.pa = some k → w'.heap[k]? = w.heap[k]?) : pq w' x = pq w x := by
  unfold pq
  rw [prL_same h hk]
def ndT (t : TbV) : NdT := ⟨t.A, t.n, t.c, t.x :: t.k.flat⟩
theorem pq_flat (w : World) (P : List PtV) : (P.map (pq w)).flatMap pcq = P.flatMap pcl := by
  rw [List.flatMap_map]
  rfl
theorem RdB.pq {w : World} {B n : Nat} {A : Option Addr} {P : List PtV} (v : World) (h : RdB pcl w B A n P) : RdB pcq w B A n (P.map (pq v)) := ⟨by rw [List.length_map]; exact h.len, by rw [pq_flat]; exact h.rd⟩
theorem TbAt.nd {w : World} {B : Nat} {t : TbV} (h : TbAt w B t) : NdAt w B (ndT t) := ⟨h.rd, h.cap, Nat.le_trans h.few (by omega)⟩
def DoneR (w : World) (P : List PtV) (C : List ChV) (T : List TbV) : Prop := (∀ x ∈ P, x.bud = 0 ∧ x.per = 0) ∨ (whereF (P.map (pq w)) C (T.map ndT)).1 = 0
structure RtW (n1 : Nat) (P : List PtV) (C : List ChV) (T : List TbV) (w : World) : Prop where
  pt : ∀ x ∈ P, PtAt w w.heap.size x
  nm : ∀ i x, P[i]? = some x → x.name = nmL i ∧ HealP x ∧ (1 ≤ x.pn ∧ x.pn ≤ 2) ∧ x.pn ≤ x.pc
  ch : ∀ x ∈ C, ChOk n1 x ∧ (0 ≤ x.late ∧ x.late ≤ 4096) ∧ x.from_ ≠ x.to_ ∧ if x.queue = true then 1 ≤ x.cap ∧ x.cap ≤ 8 else x.cap = 0
  tq : ∀ t ∈ T, TbQ n1 t
  dn : DoneR w P C T
theorem core_at {P P' : List PtV} (h : P'.map coreP = P.map coreP) {i : Nat} {x' : PtV} (hx : P'[i]? = some x') : ∃ x, P[i]? = some x ∧ coreP x' = coreP x := by
  have h1 : (P'.map coreP)[i]? = some (coreP x') := by rw [List.getElem?_map, hx]; rfl
  rw [h, List.getElem?_map] at h1
  cases hp : P[i]? with
  | none => rw [hp] at h1; cases h1
  | some x => rw [hp] at h1; injection h1 with h1; exact ⟨x, rfl, h1.symm⟩
theorem core_mem {C C' : List ChV} (h : C'.map coreC = C.map coreC) {x' : ChV} (hx : x' ∈ C') : ∃ x ∈ C, coreC x' = coreC x := by
  have h1 : coreC x' ∈ C.map coreC := by rw [← h]; exact List.mem_map_of_mem hx
  obtain ⟨y, hy, e⟩ := List.mem_map.1 h1
  exact ⟨y, hy, e.symm⟩
section
variable {B b : Nat} {A : Option Addr} {m c : Nat} {f : Nat → Int} {w : World} {gr gc BB : Nat} {A1 A2 A3 : Option Addr} {n1 n2 n3 c1 c2 c3 : Nat} {P P' : List PtV} {C C' : List ChV} {T : List TbV} {wr w' : World}
theorem CfgS.rt (h : CfgS B b A m c f w gr gc BB A1 A2 A3 n1 n2 n3 c1 c2 c3 P C T wr) (hB : CfgB b w gr gc BB) (ho : Only (pO b A1 A2) wr w') (hpm : P'.map coreP = P.map coreP) (hcm : C'.map coreC = C.map coreC) (hi6 : ∀ x ∈ P', In64 x.per) (hlb : ∀ x ∈ C', 0 ≤ x.late ∧ x.late ≤ 4096)
    (hPN : PtsN P) (hCN : ∀ x ∈ C, ChNew n1 x) (hTQ : ∀ t ∈ T, TbQ n1 t) (hd : DoneR wr P' C' T) (v0 v1 v2 : Value) : RtW n1 P' C' T (set3 w' gr v0 v1 v2) := by
  have h1 := hB.br
  have h3 := hB.rc
  have h4 := hB.cB
  have hs : (set3 w' gr v0 v1 v2).heap.size = w'.heap.size := by simp [set3]
  have hset : ∀ k, k ≠ gr → (set3 w' gr v0 v1 v2).heap[k]? = w'.heap[k]? := fun k hk => by
    unfold set3
    rw [Below.heap_setCell _ _ _ _ hk, Below.heap_setCell _ _ _ _ hk, Below.heap_setCell _ _ _ _ hk]
  have hon : Only (fun k => pO b A1 A2 k ∨ k = gr) wr (set3 w' gr v0 v1 v2) := ⟨ho.os, ho.tape, ho.output, by rw [hs]; exact ho.size, fun k hk hn => (hset k fun e => hn (.inr e)).trans (ho.block k hk fun e => hn (.inl e))⟩
  have hnp : ∀ x ∈ P, ∀ k, obk x.pa = some k → ¬ (pO b A1 A2 k ∨ k = gr) := fun x hx k hk e => by
    have h5 := (h.pt x hx).2 k hk
    rcases e with (e | e | e) | e
    · omega
    · exact h5.2.2.1 e
    · exact h5.2.2.2.1 e
    · omega
  have key : ∀ x' ∈ P', ∃ i x, P'[i]? = some x' ∧ P[i]? = some x ∧ coreP x' = coreP x := fun x' hx => by
    obtain ⟨i, hi⟩ := List.getElem?_of_mem hx
    obtain ⟨x, h5, h6⟩ := core_at hpm hi
    exact ⟨i, x, hi, h5, h6⟩
  refine ⟨fun x' hx => ?_, fun i x' hx => ?_, fun x' hx => ?_, hTQ, ?_⟩
  · obtain ⟨i, x, _, hi, e⟩ := key x' hx
    have ea : x'.pa = x.pa := (show (coreP x').pa = (coreP x).pa from congrArg PtV.pa e)
    have en : x'.pn = x.pn := (show (coreP x').pn = (coreP x).pn from congrArg PtV.pn e)
    have em : x'.name = x.name := (show (coreP x').name = (coreP x).name from congrArg PtV.name e)
    have hxm := List.mem_of_getElem? hi
    have hp := (h.pt x hxm).1
    exact ⟨hi6 x' hx, by rw [em]; exact hp.name, by rw [en]; exact hp.few, by rw [ea, en]; exact hp.procs.only hon (hnp x hxm)⟩
  · obtain ⟨x, hi, e⟩ := core_at hpm hx
    obtain ⟨g1, _, _, g2, g3, g4⟩ := hPN i x hi
    have en : x'.pn = x.pn := (show (coreP x').pn = (coreP x).pn from congrArg PtV.pn e)
    have ec : x'.pc = x.pc := (show (coreP x').pc = (coreP x).pc from congrArg PtV.pc e)
    have em : x'.name = x.name := (show (coreP x').name = (coreP x).name from congrArg PtV.name e)
    have e0 : x'.h0 = x.h0 := (show (coreP x').h0 = (coreP x).h0 from congrArg PtV.h0 e)
    have e1 : x'.h1 = x.h1 := (show (coreP x').h1 = (coreP x).h1 from congrArg PtV.h1 e)
    have e2 : x'.h2 = x.h2 := (show (coreP x').h2 = (coreP x).h2 from congrArg PtV.h2 e)
    have e3 : x'.h3 = x.h3 := (show (coreP x').h3 = (coreP x).h3 from congrArg PtV.h3 e)
    have e4 : x'.h4 = x.h4 := (show (coreP x').h4 = (coreP x).h4 from congrArg PtV.h4 e)
    refine ⟨em.trans g1, ?_, by rw [en]; exact g3, by rw [en, ec]; exact g4⟩
    unfold HealP
    rw [e0, e1, e2, e3, e4]
    exact g2
  · obtain ⟨x, hxm, e⟩ := core_mem hcm hx
    obtain ⟨g1, _, g2, g3⟩ := hCN x hxm
    have e0 : x'.from_ = x.from_ := (show (coreC x').from_ = (coreC x).from_ from congrArg ChV.from_ e)
    have e1 : x'.to_ = x.to_ := (show (coreC x').to_ = (coreC x).to_ from congrArg ChV.to_ e)
    have e2 : x'.queue = x.queue := (show (coreC x').queue = (coreC x).queue from congrArg ChV.queue e)
    have e3 : x'.cap = x.cap := (show (coreC x').cap = (coreC x).cap from congrArg ChV.cap e)
    unfold ChOk at g1 ⊢
    rw [e0, e1, e2, e3]
    exact ⟨g1, hlb x' hx, g2, g3⟩
  · rcases hd with hd | hd
    · exact .inl hd
    · refine .inr ?_
      have e : P'.map (pq (set3 w' gr v0 v1 v2)) = P'.map (pq wr) := List.map_congr_left fun x' hx => by
        obtain ⟨i, x, _, hi, e⟩ := key x' hx
        have ea : x'.pa = x.pa := (show (coreP x').pa = (coreP x).pa from congrArg PtV.pa e)
        have en : x'.pn = x.pn := (show (coreP x').pn = (coreP x).pn from congrArg PtV.pn e)
        have hxm := List.mem_of_getElem? hi
        refine pq_same (B := wr.heap.size) (by rw [ea, en]; exact (h.pt x hxm).1.procs) fun k hk ek => hon.block k hk (hnp x hxm k (by rw [← ea]; exact ek))
      rw [e]
      exact hd
end
end Go.Proofs.YtfmndmhjjbeokaaGreatDoor
namespace Go.Proofs.YtfmndmhjjbeokaaGreatDoor
open Go.RowKit Tab
set_option linter.unusedSimpArgs false
set_option linter.unusedVariables false
theorem OwnV.ne {E E' s s' B B' n n' c c' : Nat} {w : World} {A A' : Option Addr} {l l' : List Value} (h : OwnV E s w B A n c l) (h' : OwnV E' s' w B' A' n' c' l') (hE : E ≠ E') : ∀ k, obk A = some k → obk A' ≠ some k := fun k hk hk' => by
  rcases h.2 with ⟨hv, _⟩ | ⟨g, _, cur, hv, _, hg, _⟩
  · injection hv with h1
    rw [h1] at hk
    cases hk
  · rcases h'.2 with ⟨hv', _⟩ | ⟨g', _, cur', hv', _, hg', _⟩
    · injection hv' with h1
      rw [h1] at hk'
      cases hk'
    · injection hv with h1
      injection hv' with h2
      rw [h1] at hk
      rw [h2] at hk'
      have e1 : g = k := by injection hk
      have e2 : g' = k := by injection hk'
      subst e1
      subst e2
      rw [hg] at hg'
      injection hg' with hg'
      injection hg' with _ h3
      exact hE h3
theorem OwnV.ne' {E E' s s' B B' n n' c c' g : Nat} {w : World} {A : Option Addr} {l l' : List Value} (h : OwnV E s w B A n c l) (h' : OwnV E' s' w B' (some ⟨g, 0, none⟩) n' c' l') (hE : E ≠ E') : ∀ k, A = some ⟨k, 0, none⟩ → k ≠ g := fun k e e2 => h.ne h' hE k (by rw [e]; rfl) (by rw [e2]; rfl)
structure CpS (B gc : Nat) (A1 A2 A3 : Option Addr) (n1 n2 n3 c1 c2 c3 : Nat) (Q : List Pq) (C : List ChV) (T : List NdT) (w : World) : Prop where
  cf : OwnV 31 3 w B (some ⟨gc, 0, none⟩) 1 1 [.slice A1 n1 c1, .slice A2 n2 c2, .slice A3 n3 c3]
  pp : OwnB 60 11 pcq w B A1 n1 c1 Q
  ch : OwnB 66 6 cc w B A2 n2 c2 C
  tb : OwnB 34 1 tcn w B A3 n3 c3 T
theorem CpS.on {B gc : Nat} {A1 A2 A3 : Option Addr} {n1 n2 n3 c1 c2 c3 : Nat} {Q : List Pq} {C : List ChV} {T : List NdT} {w w' : World} (h : CpS B gc A1 A2 A3 n1 n2 n3 c1 c2 c3 Q C T w) (hb : Below w.heap.size w w') : CpS B gc A1 A2 A3 n1 n2 n3 c1 c2 c3 Q C T w' :=
  ⟨h.cf.below rfl hb, h.pp.below hb, h.ch.below hb, h.tb.below hb⟩
theorem CpS.cells {B gc : Nat} {A1 A2 A3 : Option Addr} {n1 n2 n3 c1 c2 c3 : Nat} {Q : List Pq} {C : List ChV} {T : List NdT} {w : World} (h : CpS B gc A1 A2 A3 n1 n2 n3 c1 c2 c3 Q C T w) : w.cell? ⟨gc, 0, none⟩ = some (.slice A1 n1 c1) ∧ w.cell? ⟨gc, 1, none⟩ = some (.slice A2 n2 c2) ∧ w.cell? ⟨gc, 2, none⟩ = some (.slice A3 n3 c3) :=
  ⟨World.ownsRow.cellAt h.cf 0 (by omega), World.ownsRow.cellAt h.cf 1 (by omega), World.ownsRow.cellAt h.cf 2 (by omega)⟩
def Dj (l : List (Option Addr)) : Prop := ∀ (i j : Nat) (a b : Option Addr), l[i]? = some a → l[j]? = some b → i ≠ j → ∀ k, obk a = some k → obk b ≠ some k
theorem Dj.more {l : List (Option Addr)} {b : Option Addr} {h : Nat} (hl : Dj l) (h1 : ∀ a ∈ l, ∀ k, obk a = some k → k < h) (h2 : ∀ k, obk b = some k → h ≤ k) : Dj (l ++ [b]) := fun i j x y hx hy hij k hk hk' => by
  have hx' := List.getElem?_append (l₁ := l) (l₂ := [b]) (i := i)
  have hy' := List.getElem?_append (l₁ := l) (l₂ := [b]) (i := j)
  rw [hx'] at hx
  rw [hy'] at hy
  split at hx
  · split at hy
    · exact hl i j x y hx hy hij k hk hk'
    · have := (List.getElem?_eq_some_iff.1 hy).1
      simp at this
      rw [show j - l.length = 0 by omega] at hy
      simp at hy
      subst hy
      have := h1 x (List.mem_of_getElem? hx) k hk
      have := h2 k hk'
      omega
  · have hz := (List.getElem?_eq_some_iff.1 hx).1
    simp at hz
    rw [show i - l.length = 0 by omega] at hx
    simp at hx
    subst hx
    split at hy
    · have := h1 y (List.mem_of_getElem? hy) k hk'
      have := h2 k hk
      omega
    · have hz2 := (List.getElem?_eq_some_iff.1 hy).1
      simp at hz2
      omega
theorem CpS.put {B gc g1 : Nat} {A2 A3 : Option Addr} {n1 n2 n3 c1 c2 c3 : Nat} {Q : List Pq} {C : List ChV} {T : List NdT} {w : World} (h : CpS B gc (some ⟨g1, 0, none⟩) A2 A3 n1 n2 n3 c1 c2 c3 Q C T w) {i k : Nat} {x y : Pq} {v : Value} (hx : Q[i]? = some x) (hk : k < 11) (hy : pcq y = (pcq x).set k v) :
    CpS B gc (some ⟨g1, 0, none⟩) A2 A3 n1 n2 n3 c1 c2 c3 (Q.set i y) C T (w.setCell ⟨g1, i * 11 + k, none⟩ v) :=
  ⟨h.cf.other _ _ (h.cf.ne' h.pp.own (by decide)), h.pp.put pcq_len hx hk hy, ⟨h.ch.len, h.ch.own.other _ _ (h.ch.own.ne' h.pp.own (by decide))⟩, ⟨h.tb.len, h.tb.own.other _ _ (h.tb.own.ne' h.pp.own (by decide))⟩⟩
def CpV1 (B g0 : Nat) (A1 A2 A3 : Option Addr) (n1 n2 n3 c1 c2 c3 : Nat) (P : List Pq) (C : List ChV) (T : List NdT) (opn : Nat) (vl : Value) (wv : World) : Prop :=
  match opn with
  | 0 => vl = .pointer (some ⟨g0, 0, none⟩)
  | 1 => vl = .slice A1 n1 c1
  | 2 => ∃ (A' : Option Addr) (c' : Nat), vl = .slice A' n1 c' ∧ OwnV 60 11 wv B A' n1 c' (P.flatMap pcq)
  | 3 => vl = .pointer (some ⟨g0, 1, none⟩)
  | 4 => vl = .slice A2 n2 c2
  | 5 => ∃ (A' : Option Addr) (c' : Nat), vl = .slice A' n2 c' ∧ OwnV 66 6 wv B A' n2 c' (C.flatMap cc)
  | 6 => vl = .pointer (some ⟨g0, 2, none⟩)
  | 7 => vl = .slice A3 n3 c3
  | 8 => ∃ (A' : Option Addr) (c' : Nat), vl = .slice A' n3 c' ∧ OwnV 34 1 wv B A' n3 c' (T.flatMap tcn)
  | 9 => ∃ (B1 B2 B3 : Option Addr) (d1 d2 d3 : Nat), vl = .agg #[.slice B1 n1 d1, .slice B2 n2 d2, .slice B3 n3 d3] ∧ OwnV 60 11 wv B B1 n1 d1 (P.flatMap pcq) ∧ OwnV 66 6 wv B B2 n2 d2 (C.flatMap cc) ∧ OwnV 34 1 wv B B3 n3 d3 (T.flatMap tcn)
  | _ => True
structure CpW1 (B : Nat) (W0 : World) (n1 n2 n3 : Nat) (P : List Pq) (C : List ChV) (T : List NdT) (live : Nat → Bool) (a : Act) (w : World) : Prop where
  on : Below B W0 w
  un : live 10 = true → live 11 = false → ∃ g, a.eval (.tmp 3) = .pointer (some ⟨g, 0, none⟩) ∧ OwnV 31 3 w B (some ⟨g, 0, none⟩) 1 1 [.slice none 0 0, .slice none 0 0, .slice none 0 0]
  at_ : live 11 = true → ∃ (gc : Nat) (B1 B2 B3 : Option Addr) (d1 d2 d3 : Nat), a.eval (.tmp 3) = .pointer (some ⟨gc, 0, none⟩) ∧ CpS B gc B1 B2 B3 n1 n2 n3 d1 d2 d3 P C T w
section
variable {B g0 : Nat} {A1 A2 A3 : Option Addr} {n1 n2 n3 c1 c2 c3 : Nat} {P : List Pq} {C : List ChV} {T : List NdT} {w w' W0 : World} {live : Nat → Bool} {a : Act}
theorem CpV1.on {j : Nat} {v : Value} (h : CpV1 B g0 A1 A2 A3 n1 n2 n3 c1 c2 c3 P C T j v w) (hb : Below w.heap.size w w') : CpV1 B g0 A1 A2 A3 n1 n2 n3 c1 c2 c3 P C T j v w' := by
  unfold CpV1 at h ⊢
  split at h
  case h_3 => obtain ⟨A', c', h1, h2⟩ := h; exact ⟨A', c', h1, h2.below rfl hb⟩
  case h_6 => obtain ⟨A', c', h1, h2⟩ := h; exact ⟨A', c', h1, h2.below rfl hb⟩
  case h_9 => obtain ⟨A', c', h1, h2⟩ := h; exact ⟨A', c', h1, h2.below rfl hb⟩
  case h_10 => obtain ⟨B1, B2, B3, d1, d2, d3, h0, h1, h2, h3⟩ := h; exact ⟨B1, B2, B3, d1, d2, d3, h0, h1.below rfl hb, h2.below rfl hb, h3.below rfl hb⟩
  all_goals exact h
theorem CpV1.set {j g k : Nat} {v u : Value} {l : List Value} (h : CpV1 B g0 A1 A2 A3 n1 n2 n3 c1 c2 c3 P C T j v w) (hg : OwnV 31 3 w B (some ⟨g, 0, none⟩) 1 1 l) : CpV1 B g0 A1 A2 A3 n1 n2 n3 c1 c2 c3 P C T j v (w.setCell ⟨g, k, none⟩ u) := by
  unfold CpV1 at h ⊢
  split at h
  case h_3 => obtain ⟨A', c', h1, h2⟩ := h; exact ⟨A', c', h1, h2.other _ _ (h2.ne' hg (by decide))⟩
  case h_6 => obtain ⟨A', c', h1, h2⟩ := h; exact ⟨A', c', h1, h2.other _ _ (h2.ne' hg (by decide))⟩
  case h_9 => obtain ⟨A', c', h1, h2⟩ := h; exact ⟨A', c', h1, h2.other _ _ (h2.ne' hg (by decide))⟩
  case h_10 => obtain ⟨B1, B2, B3, d1, d2, d3, h0, h1, h2, h3⟩ := h; exact ⟨B1, B2, B3, d1, d2, d3, h0, h1.other _ _ (h1.ne' hg (by decide)), h2.other _ _ (h2.ne' hg (by decide)), h3.other _ _ (h3.ne' hg (by decide))⟩
  all_goals exact h
theorem CpW1.upd (h : CpW1 B W0 n1 n2 n3 P C T live a w) (i : Nat) (d : Tmp) (v : Value) (hi : i ≠ 10 ∧ i ≠ 11) (hd : d ≠ 3) : CpW1 B W0 n1 n2 n3 P C T (Rgs.upd live i) (a.put (some d) v) w := by
  have e1 : Rgs.upd live i 10 = live 10 := by unfold Rgs.upd; simp [Ne.symm hi.1]
  have e2 : Rgs.upd live i 11 = live 11 := by unfold Rgs.upd; simp [Ne.symm hi.2]
  refine ⟨h.on, fun h1 h2 => ?_, fun h1 => ?_⟩
  · rw [Reg.eval_other _ _ _ _ hd]
    exact h.un (e1 ▸ h1) (e2 ▸ h2)
  · rw [Reg.eval_other _ _ _ _ hd]
    exact h.at_ (e2 ▸ h1)
theorem CpW1.bel (h : CpW1 B W0 n1 n2 n3 P C T live a w) (hB : B ≤ W0.heap.size) (hb : Below w.heap.size w w') : CpW1 B W0 n1 n2 n3 P C T live a w' := by
  refine ⟨h.on.trans (hb.mono (Nat.le_trans hB h.on.size)), fun h1 h2 => ?_, fun h1 => ?_⟩
  · obtain ⟨g, e, ho⟩ := h.un h1 h2
    exact ⟨g, e, ho.below rfl hb⟩
  · obtain ⟨gc, B1, B2, B3, d1, d2, d3, e, ho⟩ := h.at_ h1
    exact ⟨gc, B1, B2, B3, d1, d2, d3, e, ho.on hb⟩
end
end Go.Proofs.YtfmndmhjjbeokaaGreatDoor
