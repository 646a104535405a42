/- Package config: whether two configurations are the same. -/
import Derived.Test.YtgoeikihjffeoaaGreatZe
import Derived.Test.YtgoeikihjffeoaaGreatYe
namespace Go.Proofs.YtgoeikihjffeoaaGreat
open Go.RowKit Tab
set_option linter.unusedSimpArgs false
set_option linter.unusedVariables false

theorem bool_eqs (a b : Bool) : (a == b) = decide (a = b) := by cases a <;> cases b <;> rfl
theorem arr5_eql (a0 a1 a2 a3 a4 b0 b1 b2 b3 b4 : Int) (W : World) : (binOp .eql 47 (.agg #[.int .i64 a0, .int .i64 a1, .int .i64 a2, .int .i64 a3, .int .i64 a4]) (.agg #[.int .i64 b0, .int .i64 b1, .int .i64 b2, .int .i64 b3, .int .i64 b4])).run Tryz.prog W =
    .ok (.bool (heq5 a0 a1 a2 a3 a4 b0 b1 b2 b3 b4)) W := by
  rw [run_eql_struct, arr5_eq]
  rfl
set_option maxRecDepth 100000 in
set_option maxHeartbeats 1600000 in
theorem eqpc_any (A1 A2 : Option Addr) (n m c1 c2 : Nat) (l1 l2 : List (Int × Int)) (w : World) (h1 : RdB prc w w.heap.size A1 n l1) (h2 : RdB prc w w.heap.size A2 m l2) (hn : n ≤ 140737488351232) :
    Calls Tryz.prog 57 #[.slice A1 n c1, .slice A2 m c2] w (Qui (.bool (decide (l1 = l2))) w) := by
  have HNO : Hid (¬ l1 = l2 → decide (l1 = l2) = false) := Lib.hid fun h => decide_eq_false h
  have HYES : Hid (l1 = l2 → decide (l1 = l2) = true) := Lib.hid fun h => decide_eq_true h
  generalize decide (l1 = l2) = v at HNO HYES ⊢
  by_cases hnm : n = m
  · subst hnm
    go_enter Tryz.func57, Tryz.ntmps57
    go_wp2_with fail
    go_loopw [5, 13] (fun _ s wr => ∃ i q : Nat, i ≤ n ∧ s = .int .i64 i ∧ (∀ k, k < i → l1[k]? = l2[k]?) ∧ wr = w.drewN q) (fun _ s _ => n - (intOf s).toNat)
    case atStart => exact ⟨0, 0, by omega, rfl, fun k hk => by omega, rfl⟩
    case round =>
      obtain ⟨i, q, hi, rfl, hok, rfl⟩ := hrel
      have HOK := Lib.hid hok
      clear hok
      by_cases hlt : i < n
      · obtain ⟨ad, x, rfl, _, hx, c0, ck⟩ := h1.at_ prc_len (by omega) hlt
        obtain ⟨ad2, y, rfl, _, hy, e0, ek⟩ := h2.at_ prc_len (by omega) hlt
        have c1 := ck 1 _ (by omega) rfl
        have e1 := ek 1 _ (by omega) rfl
        have c0 := c0 _ rfl
        have f0 := e0 _ rfl
        clear e0
        obtain ⟨e, p⟩ := x
        obtain ⟨e2, p2⟩ := y
        dsimp only at c0 f0 c1 e1
        have hne := fun W => pc_neqs e p e2 p2 W
        by_cases hE : (e, p) = (e2, p2)
        · rw [decide_eq_true hE] at hne
          have hne : ∀ W, (binOp .neq 51 (.agg #[.int .i64 e, .int .i64 p]) (.agg #[.int .i64 e2, .int .i64 p2])).run Tryz.prog W = .ok (.bool false) W := hne
          have HNX : Hid (∀ k, k < i + 1 → l1[k]? = l2[k]?) := Lib.hid (lt_more (p := fun k => l1[k]? = l2[k]?) HOK.out (by rw [hx, hy, hE]))
          clear hE hx hy ck ek HOK HNO HYES
          go_wp2_with fail
          go_quiet (fail)
          go_wp2_with fail
          go_roundw
          case rel => exact ⟨i + 1, q + nq, by omega, by go_num, HNX.out, rfl⟩
          case measure => simp [intOf]; omega
        · rw [decide_eq_false hE] at hne
          have hne : ∀ W, (binOp .neq 51 (.agg #[.int .i64 e, .int .i64 p]) (.agg #[.int .i64 e2, .int .i64 p2])).run Tryz.prog W = .ok (.bool true) W := hne
          have HV := Lib.hid (HNO.out fun h => hE (by rw [h, hy] at hx; injection hx with hx; exact hx.symm))
          clear hE hx hy ck ek HOK HNO HYES
          go_wp2_with fail
          go_quiet (fail)
          go_wp2_with fail
          go_ret
          exact ⟨by rw [HV.out]; rfl, q + nq, by rw [World.drewN_drewN]⟩
      · have hge : n ≤ i := by omega
        have HV := Lib.hid (HYES.out (List.ext_getElem? fun k => by
          rcases Nat.lt_or_ge k i with h5 | h5
          · exact HOK.out k h5
          · rw [List.getElem?_eq_none (by rw [h1.len]; omega), List.getElem?_eq_none (by rw [h2.len]; omega)]))
        clear HOK HNO HYES
        go_wp2_with fail
        go_ret
        exact ⟨by rw [HV.out]; rfl, q, rfl⟩
  · have HV := Lib.hid (HNO.out fun h => hnm (by rw [← h1.len, ← h2.len, h]))
    have h4 : ((n : Int) != (m : Int)) = true := bne_iff_ne.2 (by omega)
    clear HNO HYES h1 h2 hnm
    go_enter Tryz.func57, Tryz.ntmps57
    go_wp2_with fail
    go_ret
    exact ⟨by rw [HV.out]; rfl, 0, rfl⟩
set_option maxRecDepth 100000 in
set_option maxHeartbeats 1600000 in
theorem eqch_any (A1 A2 : Option Addr) (n m c1 c2 : Nat) (l1 l2 : List ChV) (w : World) (h1 : RdB cc w w.heap.size A1 n l1) (h2 : RdB cc w w.heap.size A2 m l2) (hn : n ≤ 140737488351232) :
    Calls Tryz.prog 29 #[.slice A1 n c1, .slice A2 m c2] w (Qui (.bool (decide (l1 = l2))) w) := by
  have HNO : Hid (¬ l1 = l2 → decide (l1 = l2) = false) := Lib.hid fun h => decide_eq_false h
  have HYES : Hid (l1 = l2 → decide (l1 = l2) = true) := Lib.hid fun h => decide_eq_true h
  generalize decide (l1 = l2) = v at HNO HYES ⊢
  by_cases hnm : n = m
  · subst hnm
    go_enter Tryz.func29, Tryz.ntmps29
    go_wp2_with fail
    go_loopw [5, 13] (fun _ s wr => ∃ i q : Nat, i ≤ n ∧ s = .int .i64 i ∧ (∀ k, k < i → l1[k]? = l2[k]?) ∧ wr = w.drewN q) (fun _ s _ => n - (intOf s).toNat)
    case atStart => exact ⟨0, 0, by omega, rfl, fun k hk => by omega, rfl⟩
    case round =>
      obtain ⟨i, q, hi, rfl, hok, rfl⟩ := hrel
      have HOK := Lib.hid hok
      clear hok
      by_cases hlt : i < n
      · obtain ⟨ad, x, rfl, _, hx, c0, ck⟩ := h1.at_ cc_len (by omega) hlt
        obtain ⟨ad2, y, rfl, _, hy, e0, ek⟩ := h2.at_ cc_len (by omega) hlt
        have c1 := ck 1 _ (by omega) rfl
        have e1 := ek 1 _ (by omega) rfl
        have c2 := ck 2 _ (by omega) rfl
        have e2 := ek 2 _ (by omega) rfl
        have c3 := ck 3 _ (by omega) rfl
        have e3 := ek 3 _ (by omega) rfl
        have c4 := ck 4 _ (by omega) rfl
        have e4 := ek 4 _ (by omega) rfl
        have c5 := ck 5 _ (by omega) rfl
        have e5 := ek 5 _ (by omega) rfl
        have c0 := c0 _ rfl
        have e0 := e0 _ rfl
        obtain ⟨xf, xt, xq, xc, xm, xl⟩ := x
        obtain ⟨yf, yt, yq, yc, ym, yl⟩ := y
        dsimp only at c0 e0 c1 e1 c2 e2 c3 e3 c4 e4 c5 e5
        have hne := fun W => ch_neqs ⟨xf, xt, xq, xc, xm, xl⟩ ⟨yf, yt, yq, yc, ym, yl⟩ W
        by_cases hE : (⟨xf, xt, xq, xc, xm, xl⟩ : ChV) = ⟨yf, yt, yq, yc, ym, yl⟩
        · rw [decide_eq_true hE] at hne
          have hne : ∀ W, (binOp .neq 57 (.agg #[.int .i64 xf, .int .i64 xt, .bool xq, .int .i64 xc, .int .u32 xm, .int .i64 xl]) (.agg #[.int .i64 yf, .int .i64 yt, .bool yq, .int .i64 yc, .int .u32 ym, .int .i64 yl])).run Tryz.prog W = .ok (.bool false) W := hne
          have HNX : Hid (∀ k, k < i + 1 → l1[k]? = l2[k]?) := Lib.hid (lt_more (p := fun k => l1[k]? = l2[k]?) HOK.out (by rw [hx, hy, hE]))
          clear hE hx hy ck ek HOK HNO HYES
          go_wp2_with fail
          go_quiet (fail)
          go_wp2_with fail
          go_roundw
          case rel => exact ⟨i + 1, q + nq, by omega, by go_num, HNX.out, rfl⟩
          case measure => simp [intOf]; omega
        · rw [decide_eq_false hE] at hne
          have hne : ∀ W, (binOp .neq 57 (.agg #[.int .i64 xf, .int .i64 xt, .bool xq, .int .i64 xc, .int .u32 xm, .int .i64 xl]) (.agg #[.int .i64 yf, .int .i64 yt, .bool yq, .int .i64 yc, .int .u32 ym, .int .i64 yl])).run Tryz.prog W = .ok (.bool true) W := hne
          have HV := Lib.hid (HNO.out fun h => hE (by rw [h, hy] at hx; injection hx with hx; exact hx.symm))
          clear hE hx hy ck ek HOK HNO HYES
          go_wp2_with fail
          go_quiet (fail)
          go_wp2_with fail
          go_ret
          exact ⟨by rw [HV.out]; rfl, q + nq, by rw [World.drewN_drewN]⟩
      · have hge : n ≤ i := by omega
        have HV := Lib.hid (HYES.out (List.ext_getElem? fun k => by
          rcases Nat.lt_or_ge k i with h5 | h5
          · exact HOK.out k h5
          · rw [List.getElem?_eq_none (by rw [h1.len]; omega), List.getElem?_eq_none (by rw [h2.len]; omega)]))
        clear HOK HNO HYES
        go_wp2_with fail
        go_ret
        exact ⟨by rw [HV.out]; rfl, q, rfl⟩
  · have HV := Lib.hid (HNO.out fun h => hnm (by rw [← h1.len, ← h2.len, h]))
    have h4 : ((n : Int) != (m : Int)) = true := bne_iff_ne.2 (by omega)
    clear HNO HYES h1 h2 hnm
    go_enter Tryz.func29, Tryz.ntmps29
    go_wp2_with fail
    go_ret
    exact ⟨by rw [HV.out]; rfl, 0, rfl⟩
set_option maxRecDepth 100000 in
set_option maxHeartbeats 4000000 in
theorem spart_any (x y : Pq) (w : World) (hx : RdB prc w w.heap.size x.1.pa x.1.pn x.2) (hy : RdB prc w w.heap.size y.1.pa y.1.pn y.2) (hn : x.1.pn ≤ 140737488351232) :
    Calls Tryz.prog 28 #[pv x.1, pv y.1] w (Ans (.bool (decide (SameP x y))) w) := by
  have HNO : Hid (¬ SameP x y → decide (SameP x y) = false) := Lib.hid fun h => decide_eq_false h
  have HYES : Hid (SameP x y → decide (SameP x y) = true) := Lib.hid fun h => decide_eq_true h
  generalize decide (SameP x y) = v at HNO HYES ⊢
  obtain ⟨⟨nm, bu, pe, sc, st, pa, pn, pc, a0, a1, a2, a3, a4⟩, L⟩ := x
  obtain ⟨⟨nm2, bu2, pe2, sc2, st2, pa2, pn2, pc2, b0, b1, b2, b3, b4⟩, M⟩ := y
  unfold SameP at HNO HYES
  dsimp only at hx hy HNO HYES hn ⊢
  have g0 := bl1 w (.cells #[.string nm, .int .i64 bu, .int .i64 pe, .bool sc, .bool st, .slice pa pn pc, .int .i64 a0, .int .i64 a1, .int .i64 a2, .int .i64 a3, .int .i64 a4] 49)
  have g1 := g0.trans ((bl1 _ (.cells #[.string nm2, .int .i64 bu2, .int .i64 pe2, .bool sc2, .bool st2, .slice pa2 pn2 pc2, .int .i64 b0, .int .i64 b1, .int .i64 b2, .int .i64 b3, .int .i64 b4] 49)).mono g0.size)
  have HB := Lib.hid g1
  have HEQ := Lib.hid (eqpc_any pa pa2 pn pn2 pc pc2 L M _ (hx.on g1) (hy.on g1) hn)
  have HE1 : Hid (¬ L = M → decide (L = M) = false) := Lib.hid fun h => decide_eq_false h
  have HE2 : Hid (L = M → decide (L = M) = true) := Lib.hid fun h => decide_eq_true h
  generalize decide (L = M) = ql at HEQ HE1 HE2
  have O : Hid (∀ (k : Nat) (v : Value), (#[Value.string nm, .int .i64 bu, .int .i64 pe, .bool sc, .bool st, .slice pa pn pc, .int .i64 a0, .int .i64 a1, .int .i64 a2, .int .i64 a3, .int .i64 a4] : Array Value)[k]? = some v → ((w.alloc (.cells #[.string nm, .int .i64 bu, .int .i64 pe, .bool sc, .bool st, .slice pa pn pc, .int .i64 a0, .int .i64 a1, .int .i64 a2, .int .i64 a3, .int .i64 a4] 49)).alloc (.cells #[.string nm2, .int .i64 bu2, .int .i64 pe2, .bool sc2, .bool st2, .slice pa2 pn2 pc2, .int .i64 b0, .int .i64 b1, .int .i64 b2, .int .i64 b3, .int .i64 b4] 49)).cell? ⟨w.heap.size, k, none⟩ = some v) := Lib.hid (by
    intro k v hv
    rw [(bl1 _ _).cell (by simp)]
    exact (World.cell?_alloc_mark _ _ _ _ _).trans hv)
  have e : (w.alloc (.cells #[.string nm, .int .i64 bu, .int .i64 pe, .bool sc, .bool st, .slice pa pn pc, .int .i64 a0, .int .i64 a1, .int .i64 a2, .int .i64 a3, .int .i64 a4] 49)).heap.size = w.heap.size + 1 := by simp
  have O2 : Hid (∀ (k : Nat) (v : Value), (#[Value.string nm2, .int .i64 bu2, .int .i64 pe2, .bool sc2, .bool st2, .slice pa2 pn2 pc2, .int .i64 b0, .int .i64 b1, .int .i64 b2, .int .i64 b3, .int .i64 b4] : Array Value)[k]? = some v → ((w.alloc (.cells #[.string nm, .int .i64 bu, .int .i64 pe, .bool sc, .bool st, .slice pa pn pc, .int .i64 a0, .int .i64 a1, .int .i64 a2, .int .i64 a3, .int .i64 a4] 49)).alloc (.cells #[.string nm2, .int .i64 bu2, .int .i64 pe2, .bool sc2, .bool st2, .slice pa2 pn2 pc2, .int .i64 b0, .int .i64 b1, .int .i64 b2, .int .i64 b3, .int .i64 b4] 49)).cell? ⟨w.heap.size + 1, k, none⟩ = some v) := Lib.hid (by
    intro k v hv
    rw [← e]
    exact (World.cell?_alloc_mark _ _ _ _ _).trans hv)
  clear g0 g1 hx hy e hn
  go_enter Tryz.func28, Tryz.ntmps28
  go_upto_region 1 with fail
  generalize (w.alloc (.cells #[.string nm, .int .i64 bu, .int .i64 pe, .bool sc, .bool st, .slice pa pn pc, .int .i64 a0, .int .i64 a1, .int .i64 a2, .int .i64 a3, .int .i64 a4] 49)).alloc (.cells #[.string nm2, .int .i64 bu2, .int .i64 pe2, .bool sc2, .bool st2, .slice pa2 pn2 pc2, .int .i64 b0, .int .i64 b1, .int .i64 b2, .int .i64 b3, .int .i64 b4] 49) = W at HB HEQ O O2 ⊢
  generalize w.heap.size + 1 = g2 at O2 ⊢
  obtain ⟨g, hg⟩ : ∃ g, g = w.heap.size := ⟨_, rfl⟩
  rw [← hg] at O ⊢
  clear hg
  have c0 := O.out 0 _ rfl
  have d0 := O2.out 0 _ rfl
  have c1 := O.out 1 _ rfl
  have d1 := O2.out 1 _ rfl
  have c2 := O.out 2 _ rfl
  have d2 := O2.out 2 _ rfl
  have c3 := O.out 3 _ rfl
  have d3 := O2.out 3 _ rfl
  have c4 := O.out 4 _ rfl
  have d4 := O2.out 4 _ rfl
  have c5 := O.out 5 _ rfl
  have d5 := O2.out 5 _ rfl
  have c6 := O.out 6 _ rfl
  have d6 := O2.out 6 _ rfl
  have c7 := O.out 7 _ rfl
  have d7 := O2.out 7 _ rfl
  have c8 := O.out 8 _ rfl
  have d8 := O2.out 8 _ rfl
  have c9 := O.out 9 _ rfl
  have d9 := O2.out 9 _ rfl
  have c10 := O.out 10 _ rfl
  have d10 := O2.out 10 _ rfl
  by_cases k0 : nm = nm2
  case neg =>
    have hq : (nm.toList == nm2.toList) = false := bs_eq_of (decide_eq_false k0)
    have HV := Lib.hid (HNO.out fun h => k0 h.1)
    clear HNO HYES k0 HE1 HE2
    go_wp2_with fail
    go_ret
    exact Ans.mk (by rw [HV.out]; rfl) HB.out
  have hq : (nm.toList == nm2.toList) = true := bs_eq_of (decide_eq_true k0)
  by_cases k1 : bu = bu2
  case neg =>
    have hq1 : (bu == bu2) = false := beq_eq_false_iff_ne.2 k1
    have HV := Lib.hid (HNO.out fun h => k1 h.2.1)
    clear HNO HYES k1 HE1 HE2
    go_wp2_with fail
    go_ret
    exact Ans.mk (by rw [HV.out]; rfl) HB.out
  have hq1 : (bu == bu2) = true := beq_iff_eq.2 k1
  by_cases k2 : pe = pe2
  case neg =>
    have hq2 : (pe == pe2) = false := beq_eq_false_iff_ne.2 k2
    have HV := Lib.hid (HNO.out fun h => k2 h.2.2.1)
    clear HNO HYES k2 HE1 HE2
    go_wp2_with fail
    go_ret
    exact Ans.mk (by rw [HV.out]; rfl) HB.out
  have hq2 : (pe == pe2) = true := beq_iff_eq.2 k2
  by_cases k3 : sc = sc2
  case neg =>
    have hq3 : (sc == sc2) = false := by rw [bool_eqs]; exact decide_eq_false k3
    have HV := Lib.hid (HNO.out fun h => k3 h.2.2.2.1)
    clear HNO HYES k3 HE1 HE2
    go_wp2_with fail
    go_ret
    exact Ans.mk (by rw [HV.out]; rfl) HB.out
  have hq3 : (sc == sc2) = true := by rw [bool_eqs]; exact decide_eq_true k3
  by_cases k4 : st = st2
  case neg =>
    have hq4 : (st == st2) = false := by rw [bool_eqs]; exact decide_eq_false k4
    have HV := Lib.hid (HNO.out fun h => k4 h.2.2.2.2.1)
    clear HNO HYES k4 HE1 HE2
    go_wp2_with fail
    go_ret
    exact Ans.mk (by rw [HV.out]; rfl) HB.out
  have hq4 : (st == st2) = true := by rw [bool_eqs]; exact decide_eq_true k4
  go_wp2_with fail
  refine HEQ.out.mono ?_
  rintro e w5 ⟨rfl, dq, rfl⟩
  by_cases k5 : L = M
  case neg =>
    have HV := Lib.hid (HNO.out fun h => k5 h.2.2.2.2.2.2)
    obtain rfl := HE1.out k5
    clear HNO HYES k5 HE1 HE2
    go_wp2_with fail
    go_ret
    exact Ans.mk (by rw [HV.out]; rfl) (Below.drewN HB.out dq)
  obtain rfl := HE2.out k5
  have hha := fun W => arr5_eql a0 a1 a2 a3 a4 b0 b1 b2 b3 b4 W
  by_cases k6 : a0 = b0 ∧ a1 = b1 ∧ a2 = b2 ∧ a3 = b3 ∧ a4 = b4
  case neg =>
    rw [show heq5 a0 a1 a2 a3 a4 b0 b1 b2 b3 b4 = false from decide_eq_false k6] at hha
    have hha : ∀ W, (binOp .eql 47 (.agg #[.int .i64 a0, .int .i64 a1, .int .i64 a2, .int .i64 a3, .int .i64 a4]) (.agg #[.int .i64 b0, .int .i64 b1, .int .i64 b2, .int .i64 b3, .int .i64 b4])).run Tryz.prog W = .ok (.bool false) W := hha
    have HV := Lib.hid (HNO.out fun h => k6 h.2.2.2.2.2.1)
    clear HNO HYES k6 HE1 HE2
    go_wp2_with fail
    go_ret
    exact Ans.mk (by rw [HV.out]; rfl) (Below.drewN HB.out dq)
  rw [show heq5 a0 a1 a2 a3 a4 b0 b1 b2 b3 b4 = true from decide_eq_true k6] at hha
  have hha : ∀ W, (binOp .eql 47 (.agg #[.int .i64 a0, .int .i64 a1, .int .i64 a2, .int .i64 a3, .int .i64 a4]) (.agg #[.int .i64 b0, .int .i64 b1, .int .i64 b2, .int .i64 b3, .int .i64 b4])).run Tryz.prog W = .ok (.bool true) W := hha
  have HV := Lib.hid (HYES.out ⟨k0, k1, k2, k3, k4, k6, k5⟩)
  clear HNO HYES k6 HE1 HE2 k0 k1 k2 k3 k4 k5
  go_wp2_with fail
  go_ret
  exact Ans.mk (by rw [HV.out]; rfl) (Below.drewN HB.out dq)
end Go.Proofs.YtgoeikihjffeoaaGreat
