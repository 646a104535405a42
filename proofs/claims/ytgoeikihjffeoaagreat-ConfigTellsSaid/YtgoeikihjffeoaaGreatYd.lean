/- Whether partitions are the same: by the document's own answer, exactly. -/
import Derived.Test.YtgoeikihjffeoaaGreatLow8
import Derived.Test.YtgoeikihjffeoaaGreatRn
import Derived.Laws.StructEq
namespace Go.Proofs.YtgoeikihjffeoaaGreat
open Go.RowKit Tab
set_option linter.unusedSimpArgs false
set_option linter.unusedVariables false

def heq5 (a0 a1 a2 a3 a4 b0 b1 b2 b3 b4 : Int) : Bool := decide (a0 = b0 ∧ a1 = b1 ∧ a2 = b2 ∧ a3 = b3 ∧ a4 = b4)
set_option maxRecDepth 100000 in
set_option maxHeartbeats 2000000 in
theorem arr5_eq (a0 a1 a2 a3 a4 b0 b1 b2 b3 b4 : Int) (W : World) : (Op.equalIn 10000 47 (.agg #[.int .i64 a0, .int .i64 a1, .int .i64 a2, .int .i64 a3, .int .i64 a4]) (.agg #[.int .i64 b0, .int .i64 b1, .int .i64 b2, .int .i64 b3, .int .i64 b4])).run Tryz.prog W =
    .ok (heq5 a0 a1 a2 a3 a4 b0 b1 b2 b3 b4) W := by
  have u3 := Tryz.underlying3
  have a3' := Tryz.isAgg3
  have z3 := Tryz.sizeOf3
  rw [show (10000 : Nat) = 9999 + 1 from rfl, Op.equalIn]
  simp only [Sem.run_bind, run_underlying Tryz.underlying47, Result.andThen_ok]
  simp only [Std.Legacy.Range.forIn_eq_forIn_range', Std.Legacy.Range.size, Nat.sub_zero, Nat.add_sub_cancel, Nat.div_one, List.range'_succ, List.range'_zero, List.forIn_cons, List.forIn_nil]
  unfold heq5
  go_simp
  by_cases h0 : a0 = b0
  · by_cases h1 : a1 = b1
    · by_cases h2 : a2 = b2
      · by_cases h3 : a3 = b3
        · by_cases h4 : a4 = b4 <;> simp [h0, h1, h2, h3, h4]
        · simp [h0, h1, h2, h3]
      · simp [h0, h1, h2]
    · simp [h0, h1]
  · simp [h0]
theorem arr5_neq (a0 a1 a2 a3 a4 b0 b1 b2 b3 b4 : Int) (W : World) : (binOp .neq 47 (.agg #[.int .i64 a0, .int .i64 a1, .int .i64 a2, .int .i64 a3, .int .i64 a4]) (.agg #[.int .i64 b0, .int .i64 b1, .int .i64 b2, .int .i64 b3, .int .i64 b4])).run Tryz.prog W =
    .ok (.bool (!(heq5 a0 a1 a2 a3 a4 b0 b1 b2 b3 b4))) W := by
  rw [run_neq_struct, arr5_eq]
  rfl
theorem pc_neqs (a b c d : Int) (W : World) : (binOp .neq 51 (.agg #[.int .i64 a, .int .i64 b]) (.agg #[.int .i64 c, .int .i64 d])).run Tryz.prog W = .ok (.bool (!(decide ((a, b) = (c, d))))) W := by
  by_cases h1 : a = c
  · by_cases h2 : b = d
    · subst h1; subst h2
      simp [run_neq_struct, go_sem]
    · subst h1
      simp [run_neq_struct, go_sem, h2]
  · simp [run_neq_struct, go_sem, h1]
/-- The same partition, whatever holds its processes. -/
def SameP (x y : Pq) : Prop := x.1.name = y.1.name ∧ x.1.bud = y.1.bud ∧ x.1.per = y.1.per ∧ x.1.sched = y.1.sched ∧ x.1.stop = y.1.stop ∧ (x.1.h0 = y.1.h0 ∧ x.1.h1 = y.1.h1 ∧ x.1.h2 = y.1.h2 ∧ x.1.h3 = y.1.h3 ∧ x.1.h4 = y.1.h4) ∧ x.2 = y.2
instance (x y : Pq) : Decidable (SameP x y) := by unfold SameP; infer_instance
set_option maxRecDepth 100000 in
set_option maxHeartbeats 4000000 in
theorem rsamep_any (x y : Pq) (w : World) (hx : RdB prc w w.heap.size x.1.pa x.1.pn x.2) (hy : RdB prc w w.heap.size y.1.pa y.1.pn y.2) (hn : x.1.pn ≤ 140737488351232) :
    Calls Tryz.prog 59 #[pv x.1, pv y.1] w (Ans (.bool (decide (SameP x y))) w) := by
  have HNO : Hid (¬ SameP x y → decide (SameP x y) = false) := Lib.hid fun h => decide_eq_false h
  have HYES : Hid (SameP x y → decide (SameP x y) = true) := Lib.hid fun h => decide_eq_true h
  generalize decide (SameP x y) = v at HNO HYES ⊢
  obtain ⟨⟨nm, bu, pe, sc, st, pa, pn, pc, a0, a1, a2, a3, a4⟩, L⟩ := x
  obtain ⟨⟨nm2, bu2, pe2, sc2, st2, pa2, pn2, pc2, b0, b1, b2, b3, b4⟩, M⟩ := y
  unfold SameP at HNO HYES
  dsimp only at hx hy HNO HYES hn ⊢
  have g0 := bl1 w (.cells #[.string nm, .int .i64 bu, .int .i64 pe, .bool sc, .bool st, .slice pa pn pc, .int .i64 a0, .int .i64 a1, .int .i64 a2, .int .i64 a3, .int .i64 a4] 49)
  have g1 := g0.trans ((bl1 _ (.cells #[.string nm2, .int .i64 bu2, .int .i64 pe2, .bool sc2, .bool st2, .slice pa2 pn2 pc2, .int .i64 b0, .int .i64 b1, .int .i64 b2, .int .i64 b3, .int .i64 b4] 49)).mono g0.size)
  have HB := Lib.hid g1
  have HX := Lib.hid hx
  have HY := Lib.hid hy
  clear g0 g1 hx hy
  go_enter Tryz.func59, Tryz.ntmps59
  by_cases k0 : nm = nm2
  case neg =>
    have hq : (nm.toList == nm2.toList) = false := bs_eq_of (decide_eq_false k0)
    have HV := Lib.hid (HNO.out fun h => k0 h.1)
    clear HNO HYES k0
    go_wp2_with fail
    go_ret
    exact Ans.mk (by rw [HV.out]; rfl) HB.out
  subst k0
  by_cases k1 : bu = bu2
  case neg =>
    have hq1 : (bu != bu2) = true := bne_iff_ne.2 k1
    have HV := Lib.hid (HNO.out fun h => k1 h.2.1)
    clear HNO HYES k1
    go_wp2_with fail
    go_ret
    exact Ans.mk (by rw [HV.out]; rfl) HB.out
  subst k1
  by_cases k2 : pe = pe2
  case neg =>
    have hq2 : (pe != pe2) = true := bne_iff_ne.2 k2
    have HV := Lib.hid (HNO.out fun h => k2 h.2.2.1)
    clear HNO HYES k2
    go_wp2_with fail
    go_ret
    exact Ans.mk (by rw [HV.out]; rfl) HB.out
  subst k2
  by_cases k3 : sc = sc2
  case neg =>
    have HV := Lib.hid (HNO.out fun h => k3 h.2.2.2.1)
    clear HNO HYES
    cases sc <;> cases sc2 <;> (try (exact absurd rfl k3)) <;> go_wp2_with fail
    all_goals
      go_ret
      exact Ans.mk (by rw [HV.out]; rfl) HB.out
  subst k3
  by_cases k4 : st = st2
  case neg =>
    have HV := Lib.hid (HNO.out fun h => k4 h.2.2.2.2.1)
    clear HNO HYES
    cases st <;> cases st2 <;> (try (exact absurd rfl k4)) <;> cases sc <;> go_wp2_with fail
    all_goals
      go_ret
      exact Ans.mk (by rw [HV.out]; rfl) HB.out
  subst k4
  have hha := fun W => arr5_neq a0 a1 a2 a3 a4 b0 b1 b2 b3 b4 W
  by_cases k5 : a0 = b0 ∧ a1 = b1 ∧ a2 = b2 ∧ a3 = b3 ∧ a4 = b4
  case neg =>
    rw [show heq5 a0 a1 a2 a3 a4 b0 b1 b2 b3 b4 = false from decide_eq_false k5] at hha
    have hha : ∀ W, (binOp .neq 47 (.agg #[.int .i64 a0, .int .i64 a1, .int .i64 a2, .int .i64 a3, .int .i64 a4]) (.agg #[.int .i64 b0, .int .i64 b1, .int .i64 b2, .int .i64 b3, .int .i64 b4])).run Tryz.prog W = .ok (.bool true) W := hha
    have HV := Lib.hid (HNO.out fun h => k5 h.2.2.2.2.2.1)
    clear HNO HYES k5
    go_wp2_with fail
    go_ret
    exact Ans.mk (by rw [HV.out]; rfl) HB.out
  rw [show heq5 a0 a1 a2 a3 a4 b0 b1 b2 b3 b4 = true from decide_eq_true k5] at hha
  have hha : ∀ W, (binOp .neq 47 (.agg #[.int .i64 a0, .int .i64 a1, .int .i64 a2, .int .i64 a3, .int .i64 a4]) (.agg #[.int .i64 b0, .int .i64 b1, .int .i64 b2, .int .i64 b3, .int .i64 b4])).run Tryz.prog W = .ok (.bool false) W := hha
  have HYES2 := Lib.hid fun h => HYES.out ⟨rfl, rfl, rfl, rfl, rfl, k5, h⟩
  have HNO2 : Hid (¬ L = M → v = false) := Lib.hid fun h => HNO.out fun k => h k.2.2.2.2.2.2
  clear k5 HNO HYES
  by_cases k6 : pn = pn2
  case neg =>
    have hq6 : ((pn : Int) != (pn2 : Int)) = true := bne_iff_ne.2 (by omega)
    have HV := Lib.hid (HNO2.out fun h => k6 (by rw [← HX.out.len, ← HY.out.len, h]))
    clear HNO2 HYES2
    go_wp2_with fail
    go_ret
    exact Ans.mk (by rw [HV.out]; rfl) HB.out
  subst k6
  go_wp2_with fail
  clear hha
  have n5 : ((w.alloc (.cells #[.string nm, .int .i64 bu, .int .i64 pe, .bool sc, .bool st, .slice pa pn pc, .int .i64 a0, .int .i64 a1, .int .i64 a2, .int .i64 a3, .int .i64 a4] 49)).alloc (.cells #[.string nm, .int .i64 bu, .int .i64 pe, .bool sc, .bool st, .slice pa2 pn pc2, .int .i64 b0, .int .i64 b1, .int .i64 b2, .int .i64 b3, .int .i64 b4] 49)).cell? ⟨w.heap.size, 5, none⟩ = some (.slice pa pn pc) := by
    rw [(bl1 _ _).cell (by simp)]
    exact World.cell?_alloc_mark _ _ _ _ _
  have n5' : ((w.alloc (.cells #[.string nm, .int .i64 bu, .int .i64 pe, .bool sc, .bool st, .slice pa pn pc, .int .i64 a0, .int .i64 a1, .int .i64 a2, .int .i64 a3, .int .i64 a4] 49)).alloc (.cells #[.string nm, .int .i64 bu, .int .i64 pe, .bool sc, .bool st, .slice pa2 pn pc2, .int .i64 b0, .int .i64 b1, .int .i64 b2, .int .i64 b3, .int .i64 b4] 49)).cell? ⟨w.heap.size + 1, 5, none⟩ = some (.slice pa2 pn pc2) := by
    have e : (w.alloc (.cells #[.string nm, .int .i64 bu, .int .i64 pe, .bool sc, .bool st, .slice pa pn pc, .int .i64 a0, .int .i64 a1, .int .i64 a2, .int .i64 a3, .int .i64 a4] 49)).heap.size = w.heap.size + 1 := by simp
    rw [← e]
    exact World.cell?_alloc_mark _ _ _ _ _
  have hgs : w.heap.size + 1 < ((w.alloc (.cells #[.string nm, .int .i64 bu, .int .i64 pe, .bool sc, .bool st, .slice pa pn pc, .int .i64 a0, .int .i64 a1, .int .i64 a2, .int .i64 a3, .int .i64 a4] 49)).alloc (.cells #[.string nm, .int .i64 bu, .int .i64 pe, .bool sc, .bool st, .slice pa2 pn pc2, .int .i64 b0, .int .i64 b1, .int .i64 b2, .int .i64 b3, .int .i64 b4] 49)).heap.size := by simp
  generalize (w.alloc (.cells #[.string nm, .int .i64 bu, .int .i64 pe, .bool sc, .bool st, .slice pa pn pc, .int .i64 a0, .int .i64 a1, .int .i64 a2, .int .i64 a3, .int .i64 a4] 49)).alloc (.cells #[.string nm, .int .i64 bu, .int .i64 pe, .bool sc, .bool st, .slice pa2 pn pc2, .int .i64 b0, .int .i64 b1, .int .i64 b2, .int .i64 b3, .int .i64 b4] 49) = W at HB n5 n5' hgs ⊢
  obtain ⟨g, hg⟩ : ∃ g, g = w.heap.size := ⟨_, rfl⟩
  rw [← hg] at n5 n5' hgs ⊢
  have HG := Lib.hid hg
  have N5 := Lib.hid n5
  have N5' := Lib.hid n5'
  clear hg n5 n5'
  obtain ⟨g2, hg2⟩ : ∃ g2, g2 = g + 1 := ⟨_, rfl⟩
  rw [← hg2] at N5' hgs ⊢
  have HG2 := Lib.hid hg2
  have hgl : g < W.heap.size := by omega
  clear hg2
  go_loopw [5, 58] (fun _ s wr => ∃ i : Nat, i ≤ pn ∧ s = .int .i64 i ∧ (∀ k, k < i → L[k]? = M[k]?) ∧ Below W.heap.size W wr) (fun _ s _ => pn - (intOf s).toNat)
  case atStart => exact ⟨0, by omega, rfl, fun k hk => by omega, Below.refl _ _⟩
  case round =>
    obtain ⟨i, hi, rfl, hok, hb⟩ := hrel
    have HOK := Lib.hid hok
    clear hok
    have n5 := (hb.cell (p := ⟨g, 5, none⟩) hgl).trans N5.out
    have n5' := (hb.cell (p := ⟨g2, 5, none⟩) hgs).trans N5'.out
    have hbw := HB.out.trans (hb.mono HB.out.size)
    by_cases hlt : i < pn
    · obtain ⟨ad, q, rfl, had, hx, c0, ck⟩ := (HX.out.on hbw).at_ prc_len (by omega) hlt
      have c1 := ck 1 _ (by omega) rfl
      have c0 := c0 _ rfl
      obtain ⟨ad2, q2, rfl, had2, hy, d0, dk⟩ := (HY.out.on hbw).at_ prc_len (by omega) hlt
      have d1 := dk 1 _ (by omega) rfl
      have d0 := d0 _ rfl
      obtain ⟨e, p⟩ := q
      obtain ⟨e2, p2⟩ := q2
      dsimp only at c0 c1 d0 d1
      have hne := fun W => pc_neqs e p e2 p2 W
      by_cases hE : (e, p) = (e2, p2)
      · rw [decide_eq_true hE] at hne
        have hne : ∀ W, (binOp .neq 51 (.agg #[.int .i64 e, .int .i64 p]) (.agg #[.int .i64 e2, .int .i64 p2])).run Tryz.prog W = .ok (.bool false) W := hne
        have HNX : Hid (∀ k, k < i + 1 → L[k]? = M[k]?) := Lib.hid (lt_more (p := fun k => L[k]? = M[k]?) HOK.out (by rw [hx, hy, hE]))
        have HBB := Lib.hid hb
        clear hE hx hy ck dk had had2 HOK hb hbw
        go_wp2_with fail
        go_quiet (fail)
        go_wp2_with fail
        go_roundw
        case rel => exact ⟨i + 1, by omega, by go_num, HNX.out, Below.drewN HBB.out nq⟩
        case measure => simp [intOf]; omega
      · rw [decide_eq_false hE] at hne
        have hne : ∀ W, (binOp .neq 51 (.agg #[.int .i64 e, .int .i64 p]) (.agg #[.int .i64 e2, .int .i64 p2])).run Tryz.prog W = .ok (.bool true) W := hne
        have HV := Lib.hid (HNO2.out fun h => hE (by rw [h, hy] at hx; injection hx with hx; exact hx.symm))
        have HBB := Lib.hid hbw
        clear hE hx hy ck dk had had2 HOK hb hbw HNO2 HYES2
        go_wp2_with fail
        go_quiet (fail)
        go_wp2_with fail
        go_ret
        exact Ans.mk (by rw [HV.out]; rfl) (Below.drewN HBB.out nq)
    · have hge : pn ≤ i := by omega
      have HV := Lib.hid (HYES2.out (List.ext_getElem? fun k => by
        rcases Nat.lt_or_ge k i with h5 | h5
        · exact HOK.out k h5
        · rw [List.getElem?_eq_none (by rw [HX.out.len]; omega), List.getElem?_eq_none (by rw [HY.out.len]; omega)]))
      clear HOK HNO2 HYES2
      go_wp2_with fail
      go_ret
      exact Ans.mk (by rw [HV.out]; rfl) hbw
end Go.Proofs.YtgoeikihjffeoaaGreat
