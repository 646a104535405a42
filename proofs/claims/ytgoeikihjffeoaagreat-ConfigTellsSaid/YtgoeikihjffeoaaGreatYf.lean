/- Whether configurations are the same, tables and all: by the document's own answer, exactly. -/
import Derived.Test.YtgoeikihjffeoaaGreatYe
namespace Go.Proofs.YtgoeikihjffeoaaGreat
open Go.RowKit Tab
set_option linter.unusedSimpArgs false
set_option linter.unusedVariables false

theorem Qui.one {P : Program} {f : FuncId} {args : Array Value} {w : World} {n : Nat} {v : Value} (h : Calls P f args (w.drewN n) (Qui v (w.drewN n))) : Calls P f args (w.drewN n) fun e w'' => e = .returned v ∧ ∃ m, w'' = w.drewN m :=
  h.mono fun _ _ ⟨he, m, hm⟩ => ⟨he, n + m, by rw [hm, World.drewN_drewN]⟩
set_option maxRecDepth 100000 in
set_option maxHeartbeats 4000000 in
theorem rsamec_any (A1 A2 A3 E1 E2 E3 : Option Addr) (n1 n2 n3 c1 c2 c3 m1 m2 m3 d1 d2 d3 : Nat) (P P' : List Pq) (C C' : List ChV) (T T' : List NdT) (w : World) (hP : RdB pcq w w.heap.size A1 n1 P) (hC : RdB cc w w.heap.size A2 n2 C) (hT : RdB tcn w w.heap.size A3 n3 T) (hP' : RdB pcq w w.heap.size E1 m1 P') (hC' : RdB cc w w.heap.size E2 m2 C') (hT' : RdB tcn w w.heap.size E3 m3 T')
    (hp : ∀ x ∈ P, RdB prc w w.heap.size x.1.pa x.1.pn x.2 ∧ x.1.pn ≤ 140737488351232) (hp' : ∀ x ∈ P', RdB prc w w.heap.size x.1.pa x.1.pn x.2) (ht : ∀ t ∈ T, NdAt w w.heap.size t) (ht' : ∀ t ∈ T', NdAt w w.heap.size t) (q1 : n1 ≤ 140737488351232) (q2 : n2 ≤ 140737488351232) (q3 : n3 ≤ 140737488351232) :
    Calls Tryz.prog 16 #[.agg #[.slice A1 n1 c1, .slice A2 n2 c2, .slice A3 n3 c3], .agg #[.slice E1 m1 d1, .slice E2 m2 d2, .slice E3 m3 d3]] w (Ans (.bool (sameF P C T P' C' T')) w) := by
  have g0 := bl1 w (.cells #[.slice A1 n1 c1, .slice A2 n2 c2, .slice A3 n3 c3] 26)
  have g1 := g0.trans ((bl1 _ (.cells #[.slice E1 m1 d1, .slice E2 m2 d2, .slice E3 m3 d3] 26)).mono g0.size)
  have HNO := Lib.hid (fun h => sameF_no h : ¬ SameC P C T P' C' T' → sameF P C T P' C' T' = false)
  have HYES := Lib.hid (fun h => sameF_yes h : SameC P C T P' C' T' → sameF P C T P' C' T' = true)
  generalize sameF P C T P' C' T' = v at HNO HYES ⊢
  have HB := Lib.hid g1
  have HT := Lib.hid hT
  have HT' := Lib.hid hT'
  have HTT := Lib.hid ht
  have HTT' := Lib.hid ht'
  have HBU := Lib.hid fun (W' : World) (hb : Below w.heap.size w W') => rbut_any A1 A2 A3 E1 E2 E3 n1 n2 n3 c1 c2 c3 m1 m2 m3 d1 d2 d3 P P' C C' W' (hP.on hb) (hC.on hb) (hP'.on hb) (hC'.on hb) (fun x hx => ⟨(hp x hx).1.on hb, (hp x hx).2⟩) (fun x hx => (hp' x hx).on hb) q1 q2
  have HB1 : Hid (butF P C P' C' = true → SameB P C P' C') := Lib.hid fun h => by
    unfold butF at h
    classical exact of_decide_eq_true h
  have HB2 : Hid (butF P C P' C' = false → ¬ SameB P C P' C') := Lib.hid fun h => by
    unfold butF at h
    classical exact of_decide_eq_false h
  generalize butF P C P' C' = q at HBU HB1 HB2
  clear g0 g1 hP hC hP' hC' hp hp' hT hT' ht ht'
  go_enter Tryz.func16, Tryz.ntmps16
  have o0 : ∀ (k : Nat) (v : Value), (#[Value.slice A1 n1 c1, .slice A2 n2 c2, .slice A3 n3 c3] : Array Value)[k]? = some v → ((w.alloc (.cells #[.slice A1 n1 c1, .slice A2 n2 c2, .slice A3 n3 c3] 26)).alloc (.cells #[.slice E1 m1 d1, .slice E2 m2 d2, .slice E3 m3 d3] 26)).cell? ⟨w.heap.size, k, none⟩ = some v := by
    intro k v hv
    rw [(bl1 _ _).cell (by simp)]
    exact (World.cell?_alloc_mark _ _ _ _ _).trans hv
  have e : (w.alloc (.cells #[.slice A1 n1 c1, .slice A2 n2 c2, .slice A3 n3 c3] 26)).heap.size = w.heap.size + 1 := by simp
  have p0 : ∀ (k : Nat) (v : Value), (#[Value.slice E1 m1 d1, .slice E2 m2 d2, .slice E3 m3 d3] : Array Value)[k]? = some v → ((w.alloc (.cells #[.slice A1 n1 c1, .slice A2 n2 c2, .slice A3 n3 c3] 26)).alloc (.cells #[.slice E1 m1 d1, .slice E2 m2 d2, .slice E3 m3 d3] 26)).cell? ⟨w.heap.size + 1, k, none⟩ = some v := by
    intro k v hv
    rw [← e]
    exact (World.cell?_alloc_mark _ _ _ _ _).trans hv
  have hgs : w.heap.size + 1 < ((w.alloc (.cells #[.slice A1 n1 c1, .slice A2 n2 c2, .slice A3 n3 c3] 26)).alloc (.cells #[.slice E1 m1 d1, .slice E2 m2 d2, .slice E3 m3 d3] 26)).heap.size := by simp
  clear e
  have O := Lib.hid o0
  have P0 := Lib.hid p0
  clear o0 p0
  go_wp2_with fail
  refine (HBU.out _ HB.out).mono ?_
  rintro e w2 ⟨rfl, hb2⟩
  generalize (w.alloc (.cells #[.slice A1 n1 c1, .slice A2 n2 c2, .slice A3 n3 c3] 26)).alloc (.cells #[.slice E1 m1 d1, .slice E2 m2 d2, .slice E3 m3 d3] 26) = W at HB O P0 hgs hb2
  obtain ⟨g, hg⟩ : ∃ g, g = w.heap.size := ⟨_, rfl⟩
  rw [← hg] at O P0 hgs ⊢
  have HG := Lib.hid hg
  clear hg
  obtain ⟨g2, hg2⟩ : ∃ g2, g2 = g + 1 := ⟨_, rfl⟩
  rw [← hg2] at P0 hgs ⊢
  have HG2 := Lib.hid hg2
  have hgl : g < W.heap.size := by omega
  clear hg2
  have HM := Lib.hid fun (W' : World) (hb : Below W.heap.size W W') (o : Nat) (v : Value) (hv : (#[Value.slice A1 n1 c1, .slice A2 n2 c2, .slice A3 n3 c3] : Array Value)[o]? = some v) => (hb.cell (p := ⟨g, o, none⟩) hgl).trans (O.out o v hv)
  have HM2 := Lib.hid fun (W' : World) (hb : Below W.heap.size W W') (o : Nat) (v : Value) (hv : (#[Value.slice E1 m1 d1, .slice E2 m2 d2, .slice E3 m3 d3] : Array Value)[o]? = some v) => (hb.cell (p := ⟨g2, o, none⟩) hgs).trans (P0.out o v hv)
  have HW := Lib.hid fun (W' : World) (hb : Below W.heap.size W W') => HB.out.trans (hb.mono HB.out.size)
  have H2 := Lib.hid hb2
  clear O P0 hb2
  cases q
  · have HV := Lib.hid (HNO.out fun h => HB2.out rfl h.1)
    clear HNO HYES HB1 HB2 HBU
    go_wp2_with fail
    go_ret
    exact Ans.mk (by rw [HV.out]; rfl) (HW.out _ H2.out)
  have HBB := Lib.hid (HB1.out rfl)
  clear HB1 HB2 HBU
  have a2 := HM.out w2 H2.out 2 _ rfl
  have b2 := HM2.out w2 H2.out 2 _ rfl
  by_cases k1 : n3 = m3
  case neg =>
    have hq1 : ((n3 : Int) != (m3 : Int)) = true := bne_iff_ne.2 (by omega)
    have HV := Lib.hid (HNO.out fun h => k1 (by rw [← HT.out.len, ← HT'.out.len]; exact h.2.1))
    clear HNO HYES k1
    go_wp2_with fail
    go_ret
    exact Ans.mk (by rw [HV.out]; rfl) (HW.out _ H2.out)
  subst k1
  go_wp2_with fail
  clear a2 b2
  go_loopw [5, 22] (fun _ s wr => ∃ i : Nat, i ≤ n3 ∧ s = .int .i64 i ∧ (∀ k, k < i → ∀ x y, T[k]? = some x → T'[k]? = some y → sameN x.l y.l = true) ∧ Below W.heap.size W wr) (fun _ s _ => n3 - (intOf s).toNat)
  case atStart => exact ⟨0, by omega, rfl, fun k hk => by omega, H2.out⟩
  case round =>
    obtain ⟨i, hi, rfl, hok, hb⟩ := hrel
    have HOK := Lib.hid hok
    clear hok
    by_cases hlt : i < n3
    · have m0 := HM.out wr hb 2 _ rfl
      have m0' := HM2.out wr hb 2 _ rfl
      obtain ⟨ad, x, rfl, had, hx, c0, ck⟩ := (HT.out.on (HW.out _ hb)).at_ tcn_len (by omega) hlt
      have c0 := c0 _ rfl
      obtain ⟨ad2, y, rfl, had2, hy, e0, ek⟩ := (HT'.out.on (HW.out _ hb)).at_ tcn_len (by omega) hlt
      have e0 := e0 _ rfl
      rw [Nat.mul_one] at c0 e0
      have HPX := HTT.out x (List.mem_of_getElem? hx)
      have HPY := HTT'.out y (List.mem_of_getElem? hy)
      have HSP := Lib.hid fun (W' : World) (hb' : Below w.heap.size w W') => rnodes_any x.A y.A x.n y.n x.c y.c x.l y.l W' (HPX.rd.on hb') (HPY.rd.on hb') HPX.few
      have HNX : Hid (sameN x.l y.l = true → ∀ k, k < i + 1 → ∀ x y, T[k]? = some x → T'[k]? = some y → sameN x.l y.l = true) := Lib.hid fun h => lt_more (p := fun k => ∀ x y, T[k]? = some x → T'[k]? = some y → sameN x.l y.l = true) HOK.out fun x' y' hx' hy' => by
        rw [hx] at hx'
        rw [hy] at hy'
        injection hx' with hx'
        injection hy' with hy'
        subst hx' hy'
        exact h
      have HBD : Hid (sameN x.l y.l = false → v = false) := Lib.hid fun h => HNO.out fun k => by rw [k.2.2 i x y hx hy] at h; cases h
      obtain ⟨A, n, c, l⟩ := x
      obtain ⟨A', n', c', l'⟩ := y
      dsimp only at c0 e0 HSP HNX HBD
      have HBW := Lib.hid (HW.out _ hb)
      have HBR := Lib.hid hb
      generalize sameN l l' = q at HSP HNX HBD
      clear ck ek hx hy had had2 HPX HPY HOK hb
      go_wp2_with fail
      go_quiet ((go_at_call 33; exact Qui.one (HSP.out _ (by first | exact HBW.out | exact HBW.out.drew | exact Below.drewN HBW.out _))))
      cases q
      · have HV := Lib.hid (HBD.out rfl)
        clear HBD HNX HSP HNO HYES
        go_wp2_with fail
        go_ret
        exact Ans.mk (by rw [HV.out]; rfl) (Below.drewN HBW.out nq)
      · have HNX2 := Lib.hid (HNX.out rfl)
        clear HBD HNX HSP
        go_wp2_with fail
        go_roundw
        case rel => exact ⟨i + 1, by omega, by go_num, HNX2.out, Below.drewN HBR.out nq⟩
        case measure => simp [intOf]; omega
    · have hge : n3 ≤ i := by omega
      have HV := Lib.hid (HYES.out ⟨HBB.out, by rw [HT.out.len, HT'.out.len], fun k x y hx hy => HOK.out k (by have := (List.getElem?_eq_some_iff.1 hx).1; have := HT.out.len; omega) x y hx hy⟩)
      clear HOK HNO HYES
      go_wp2_with fail
      go_ret
      exact Ans.mk (by rw [HV.out]; rfl) (HW.out _ hb)
end Go.Proofs.YtgoeikihjffeoaaGreat
