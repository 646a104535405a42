/- IsaBack: instructions that are written are fetched, one by one, none between, none behind: the walk. -/
import Derived.Test.YtomaommamjhmmaaDoorKf
import Derived.Test.YtomaommamjhmmaaDoorKb
namespace Go.Proofs.YtomaommamjhmmaaDoor
set_option maxRecDepth 100000
open Go.RowKit
set_option linter.unusedSimpArgs false
set_option linter.unusedVariables false

theorem elI : Elt 30 26 4 32 (.agg #[.int .i64 0, .int .i64 0, .int .i64 0, .int .i64 0]) := ⟨Tryd.underlying30, by kernel_rfl, rfl, by omega⟩
theorem and_255I (z : Int) : bits .and .i64 z 255 = z % 256 := by
  show IntKind.i64.wrap ((BitVec.ofInt 64 z &&& BitVec.ofInt 64 255).toNat : Int) = _
  have e : (BitVec.ofInt 64 z &&& BitVec.ofInt 64 255).toNat = (z % 18446744073709551616).toNat % 256 := by
    rw [BitVec.toNat_and, BitVec.toNat_ofInt]
    exact Nat.and_two_pow_sub_one_eq_mod _ 8
  rw [e, IntKind.wrap_i64]
  omega
/-- The low eight bits of each number. -/
def msk (x : InsV) : InsV := ⟨x.o % 256, x.a % 256, x.b % 256, x.c % 256⟩
theorem flatMap_take {f : InsV → List Value} {s : Nat} (hf : ∀ x, (f x).length = s) (l : List InsV) (m : Nat) : (l.take m).flatMap f = (l.flatMap f).take (m * s) := by
  induction l generalizing m with
  | nil => simp
  | cons y l ih =>
    cases m with
    | zero => simp
    | succ m =>
      rw [List.take_succ_cons, List.flatMap_cons, List.flatMap_cons, ih, Nat.succ_mul, List.take_append, hf, Nat.add_sub_cancel, List.take_of_length_le (l := f y) (by rw [hf]; omega)]
theorem RdV.takeI {w : World} {B : Nat} {A : Option Addr} {l : List Value} (h : RdV w B A l) (k : Nat) : RdV w B A (l.take k) := h.front k
theorem msk_byt (x : InsV) : BytI (msk x) := by
  unfold BytI msk
  dsimp only
  omega
theorem ic_one (x : InsV) : ∀ u ∈ ic x, u.oneCell' = true := by
  intro u hu
  simp [ic] at hu
  rcases hu with rfl | rfl | rfl | rfl <;> rfl
theorem nat_div4 {K J : Nat} (h : K / 4 = J) : Hid ((K : Int) / 4 = (J : Int) ∧ (K : Int).tdiv 4 = (J : Int)) := Lib.hid ⟨by omega, by rw [Int.tdiv_eq_ediv_of_nonneg (by omega)]; omega⟩
theorem nat_mod4 (K : Nat) : Hid ((K : Int) % 4 = ((K % 4 : Nat) : Int) ∧ (K : Int).tmod 4 = ((K % 4 : Nat) : Int)) := Lib.hid ⟨by omega, by rw [Int.tmod_eq_emod_of_nonneg (by omega)]; omega⟩
theorem four_row {w : World} {B g n c : Nat} {N : List InsV} (h : OwnV 26 4 w B (some ⟨g, 0, none⟩) n c (N.flatMap ic)) {j : Nat} {x : InsV} (hx : N[j]? = some x) :
    w.cell? ⟨g, j * 4, none⟩ = some (.int .i64 x.o) ∧ w.cell? ⟨g, j * 4 + 1, none⟩ = some (.int .i64 x.a) ∧ w.cell? ⟨g, j * 4 + 2, none⟩ = some (.int .i64 x.b) ∧ w.cell? ⟨g, j * 4 + 3, none⟩ = some (.int .i64 x.c) := by
  have key : ∀ k v, k < 4 → (ic x)[k]? = some v → w.cell? ⟨g, j * 4 + k, none⟩ = some v := fun k v hk hv => by
    have h1 := (flat_get ic_len N j k x hx hk).trans hv
    have hlt := (List.getElem?_eq_some_iff.1 h1).1
    rw [h.len] at hlt
    exact (World.ownsRow.cellAt h (j * 4 + k) hlt).trans h1
  exact ⟨key 0 _ (by omega) rfl, key 1 _ (by omega) rfl, key 2 _ (by omega) rfl, key 3 _ (by omega) rfl⟩
set_option maxHeartbeats 2000000 in
theorem back15_walk (H : IsaW) (A : Option Addr) (n k : Nat) (L : List InsV) (a1 : Int) (w : World) (h : RdB ic w w.heap.size A n L) (hk : n ≤ k) (hnw : NamW w) : Calls Tryd.prog 5 #[.slice A n k, .int .i64 a1] w (Yes w) := by
  obtain ⟨K, hK, bK⟩ := and_maskH a1 255 255
  have CK := Lib.hid fun V (hv : Below w.heap.size w V) => known15_any H V (hnw.on hv)
  have CF := Lib.hid fun (A : Option Addr) (n c : Nat) (N : List InsV) (W : World) (hr : Rd W W.heap.size A n (N.flatMap by4)) (hN : N.length ≤ 40) (hc : n ≤ c) => H.fetch A n c (N.flatMap by4) (K : Int) W hr (by have := hr.1; rw [flat4_len] at this; omega) hc (nat64 (Nat.le_trans bK (by decide)))
  have CB := Lib.hid fun (B : Option Addr) (m c : Nat) (N : List InsV) (W : World) (hr : RdB ic W W.heap.size B m N) (hm : m ≤ 40) (hc : m ≤ c) => H.bytes B m c N W hr (Nat.le_trans hm (by decide)) hc
  obtain ⟨m, hm⟩ : ∃ m, m = min n 40 := ⟨_, rfl⟩
  have HM40 : Hid (m ≤ 40 ∧ m ≤ n) := Lib.hid (by omega)
  have HR0 := Lib.hid h
  have HKK := Lib.hid bK
  have hK := hK.out
  have HHK := Lib.hid hK
  have HMM := Lib.hid hm
  clear h hnw bK hm
  go_enter Tryd.func5, Tryd.ntmps5
  go_upto_if 14 with (fail)
  go_cut [0] from 15 to 16 (fun s wx => s = .slice A m k ∧ wx = w)
  case first =>
    by_cases hgt : 40 < n
    · have hmm : m = 40 := by rw [HMM.out]; omega
      have hk40 : (40 : Int) ≤ (k : Int) := by omega
      have hgt' : (40 : Int) < (n : Int) := by omega
      have hk4 : 40 ≤ k := by omega
      go_wp2_with fail
      go_meet
      exact ⟨by rw [hmm], rfl⟩
    · have hmm : m = n := by rw [HMM.out]; omega
      have hgt' : ¬ (40 : Int) < (n : Int) := by omega
      go_wp2_with fail
      go_meet
      exact ⟨by rw [hmm], rfl⟩
  case rest =>
    obtain ⟨rfl, hwc⟩ := hcut
    rw [hwc]
    clear hwc
    go_upto_region 4 with fail
    go_wp2_with fail
    have HRM : Hid (RdB ic w w.heap.size A m (L.take m)) := Lib.hid ⟨by rw [List.length_take, HR0.out.len]; have := HM40.out; omega, by rw [flatMap_take ic_len]; exact HR0.out.rd.takeI _⟩
    have HMK : Hid (m ≤ k) := Lib.hid (Nat.le_trans HM40.out.2 hk)
    have HM : Hid (m ≤ 40) := Lib.hid HM40.out.1
    generalize L.take m = N at HRM
    clear HR0 HMM HM40 hk HMK hK
    go_loopw [5, 7, 19] (fun s5 _ s wx => ∃ (j : Nat) (A' : Option Addr) (c' : Nat), j ≤ m ∧ s = .int .i64 j ∧ s5 = .slice A' j c' ∧ OwnV 26 4 wx w.heap.size A' j c' (((N.take j).map msk).flatMap ic) ∧ Below w.heap.size w wx) (fun _ _ s _ => m - (intOf s).toNat)
    case atStart => exact ⟨0, none, 0, Nat.zero_le _, rfl, rfl, OwnV.nil _ _ _ _, Below.refl _ _⟩
    case round =>
      obtain ⟨j, A', c', hj, rfl, rfl, ho, hb⟩ := hrel
      by_cases hjn : j < m
      · have hjn' : (j : Int) < (m : Int) := by omega
        obtain ⟨ad, x, rfl, had, hx, c0, ck⟩ := (HRM.out.on hb).at_ ic_len (by omega) hjn
        have c0' := c0 _ rfl
        have c1' := ck 1 _ (by omega) rfl
        have c2' := ck 2 _ (by omega) rfl
        have c3' := ck 3 _ (by omega) rfl
        have HX := Lib.hid hx
        clear c0 ck hx had
        have HO := Lib.hid ho
        have HB := Lib.hid hb
        clear ho hb hj
        go_upto_region 7 with fail
        obtain ⟨o, b1, b2, b3⟩ := x
        dsimp only at c0' c1' c2' c3' ⊢
        have hb1 := bl1 wr (.cells #[.int .i64 o, .int .i64 b1, .int .i64 b2, .int .i64 b3] 26)
        obtain ⟨d0, d1, d2, d3⟩ := fo_new wr o b1 b2 b3
        dsimp only at d0 d1 d2 d3
        have HO1 := Lib.hid (HO.out.below rfl hb1)
        have HB1 := Lib.hid (HB.out.trans (hb1.mono HB.out.size))
        clear HO HB hb1 c0' c1' c2' c3'
        generalize wr.alloc (.cells #[.int .i64 o, .int .i64 b1, .int .i64 b2, .int .i64 b3] 26) = W1 at d0 d1 d2 d3 HO1 HB1 ⊢
        generalize wr.heap.size = g1 at d0 d1 d2 d3 ⊢
        have v0 := and_255I o
        have v1 := and_255I b1
        have v2 := and_255I b2
        have v3 := and_255I b3
        have HBY : Hid (msk ⟨o, b1, b2, b3⟩ = ⟨o % 256, b1 % 256, b2 % 256, b3 % 256⟩) := Lib.hid rfl
        generalize o % 256 = p0 at v0 HBY
        generalize b1 % 256 = p1 at v1 HBY
        generalize b2 % 256 = p2 at v2 HBY
        generalize b3 % 256 = p3 at v3 HBY
        have hj40 : (j + 1) * 32 ≤ 140737488355328 := by have := HM.out; omega
        have hmx : j + 1 ≤ maxLen := by have := HM.out; unfold maxLen; omega
        have HRL := Lib.hid (rdV_new W1 #[.int .i64 p0, .int .i64 p1, .int .i64 p2, .int .i64 p3] 26 (ic ⟨p0, p1, p2, p3⟩) rfl)
        go_wp2_with (at_builtin; go_loud (refine wpList_appX elI rfl (.tmp 23) (.tmp 37) rfl rfl w.heap.size A' j c' _ rfl (HO1.out.below rfl (bl1 W1 _)) ⟨W1.heap.size, 0, none⟩ 1 1 (ic ⟨p0, p1, p2, p3⟩) _ rfl HRL.out rfl (by decide) (ic_one _) hj40 hmx (Nat.le_trans HB1.out.size (bl1 W1 _).size) (j + 1) rfl _ rfl ?_; intro A2 c2 w2 hw2 hb2 hg2))
        have hwj : (j : Int) + 1 = ((j + 1 : Nat) : Int) := rfl
        have he : (N.take (j + 1)).map msk = (N.take j).map msk ++ [⟨p0, p1, p2, p3⟩] := by rw [List.take_add_one, HX.out, List.map_append, ← HBY.out]; rfl
        rw [hwj]
        clear hwj v0 v1 v2 v3 hj40 hmx
        refine ⟨⟨j + 1, A2, c2, hjn, rfl, rfl, ?_, HB1.out.trans (((bl1 W1 _).mono HB1.out.size).trans hb2)⟩, ?_⟩
        · rw [he, List.flatMap_append, List.flatMap_singleton]
          exact hw2
        · exact Nat.sub_lt_sub_left hjn (Nat.lt_succ_self j)
      · have hjn' : ¬ (j : Int) < (m : Int) := by omega
        obtain rfl : j = m := by omega
        have HO := Lib.hid ho
        have HB := Lib.hid hb
        clear ho hb hj hjn
        clear hjn'
        have HNL : Hid (N.length = j) := Lib.hid HRM.out.len
        rw [List.take_of_length_le (Nat.le_of_eq HNL.out)] at HO
        have hlm : (N.map msk).length = j := by rw [List.length_map]; exact HNL.out
        have HLM := Lib.hid hlm
        have HBT : Hid (∀ q x, (N.map msk)[q]? = some x → BytI x) := Lib.hid fun q x hx => by
          rw [List.getElem?_map] at hx
          obtain ⟨y, _, rfl⟩ := Option.map_eq_some_iff.1 hx
          exact msk_byt y
        generalize N.map msk = NM at HO HLM HBT
        clear hlm HNL HRM
        have HRB : Hid (RdB ic wr wr.heap.size A' j NM) := Lib.hid ⟨HLM.out, HO.out.rd⟩
        have HCP := Lib.hid HO.out.cap
        have CB := Lib.hid (CB.out A' j c' NM wr HRB.out HM.out HCP.out)
        clear HRB
        go_wp2_with fail
        refine CB.out.mono ?_
        rintro e w2 ⟨A2, n2, c2, rfl, hr2, hc2, hb2⟩
        have hn2 : n2 = 4 * j := by have := hr2.1; rw [flat4_len, HLM.out] at this; omega
        have HN2 := Lib.hid hn2
        have HR2 := Lib.hid hr2
        have HO2 := Lib.hid (HO.out.below rfl hb2)
        have HB2 := Lib.hid (HB.out.trans (hb2.mono HB.out.size))
        have hw4 : Hid (wrap64 (4 * (j : Int)) = (n2 : Int)) := Lib.hid (by rw [w64I (by have := HM.out; omega)]; omega)
        have HC2 := Lib.hid hc2
        have CF := Lib.hid (CF.out A2 n2 c2 NM w2 HR2.out (by rw [HLM.out]; exact HM.out) HC2.out)
        clear hn2 hr2 hc2 hb2 HO HB CB HCP HR2 HC2
        have HW4 := hw4
        clear hw4
        obtain ⟨J, hJ⟩ : ∃ J, K / 4 = J := ⟨_, rfl⟩
        obtain ⟨R, hR⟩ : ∃ R, K % 4 = R := ⟨_, rfl⟩
        have HJW : Hid (wrap64 (J : Int) = (J : Int)) := Lib.hid (w64I (nat64 (by have := HKK.out; omega)))
        have HJX : Hid (IntKind.i64.wrap (J : Int) = (J : Int)) := Lib.hid (wrapI (nat64 (by have := HKK.out; omega)))
        have HD4 := nat_div4 hJ
        have HM4 := nat_mod4 K
        rw [hR] at HM4
        by_cases hyes : R = 0 ∧ J < j
        · have hKJ : K = 4 * J := by omega
          obtain ⟨⟨fo, f1, f2, f3⟩, hx⟩ : ∃ x, NM[J]? = some x := ⟨_, List.getElem?_eq_getElem (by rw [HLM.out]; exact hyes.2)⟩
          have hfet := fet_yes hx (HBT.out J _ hx)
          rw [← hKJ] at hfet
          rw [hfet.1, hfet.2] at CF
          dsimp only [iv] at CF
          obtain ⟨g, hg0, _, _⟩ := HO2.out.block (by omega : 0 < j)
          rw [hg0] at HO2
          have HFR := Lib.hid (four_row HO2.out hx)
          dsimp only at HFR
          have QF := Lib.hid fun W => in_eqs ⟨fo, f1, f2, f3⟩ ⟨fo, f1, f2, f3⟩ W
          rw [decide_eq_true rfl] at QF
          dsimp only [iv] at QF
          have hd4 := HD4.out.1
          have hm4 := HM4.out.1
          have hd4' := HD4.out.2
          have hm4' := HM4.out.2
          have hR0 := hyes.1
          have hm4 : (K : Int) % 4 = 0 := by rw [hm4, hR0]; rfl
          have hm4' : (K : Int).tmod 4 = 0 := by rw [hm4', hR0]; rfl
          have hbm : ((K : Int) % 4 != 0) = false := by rw [hm4]; rfl
          have hbj : decide ((j : Int) ≤ (J : Int)) = false := decide_eq_false (by have := hyes.2; omega)
          have hnj : ¬ j ≤ J := by have := hyes.2; omega
          have hnj2 : J < j := hyes.2
          have hbj2 : decide (j ≤ J) = false := decide_eq_false hnj
          have hJj : (J : Int) < (j : Int) := by have := hyes.2; omega
          have hJj' : ¬ (j : Int) ≤ (J : Int) := by omega
          clear hfet hKJ hyes hR hR0 hJ hx HD4 HM4 HBT
          rw [hg0]
          clear hg0
          have hw4 := HW4.out
          have hK := HHK.out
          have hwJ := HJW.out
          clear HW4 HHK HJW
          go_upto_region 14 with (go_at_call 12; refine CF.out.mono ?_; rintro e w3 ⟨rfl, hb3⟩)
          have hf3 := fo_new w3 fo f1 f2 f3
          have hb4 := hb3.trans ((bl1 w3 (.cells #[.int .i64 fo, .int .i64 f1, .int .i64 f2, .int .i64 f3] 26)).mono hb3.size)
          have HB4 := Lib.hid (HB2.out.trans (hb4.mono HB2.out.size))
          have HF3 := Lib.hid hf3
          have hgl : g < w2.heap.size := World.block_lt_of_cell? w2 _ HFR.out.1
          have HFS := Lib.hid fun V (hv : Below w2.heap.size w2 V) => And.intro ((hv.cell (p := ⟨g, J * 4, none⟩) hgl).trans HFR.out.1) (And.intro ((hv.cell (p := ⟨g, J * 4 + 1, none⟩) hgl).trans HFR.out.2.1) (And.intro ((hv.cell (p := ⟨g, J * 4 + 2, none⟩) hgl).trans HFR.out.2.2.1) ((hv.cell (p := ⟨g, J * 4 + 3, none⟩) hgl).trans HFR.out.2.2.2)))
          have HBW := Lib.hid hb4
          generalize w3.alloc (.cells #[.int .i64 fo, .int .i64 f1, .int .i64 f2, .int .i64 f3] 26) = W4 at HF3 HB4 HBW ⊢
          generalize w3.heap.size = g3 at HF3 ⊢
          clear hb3 hb4 hf3 hgl HB2 HO2 CF hw4 HFR
          go_upto_region 16 with fail
          have qf := QF.out
          refine Rgs.region (by kernel_rfl) (by kernel_rfl) (fun (opn : Nat) (vl : Value) (wv : World) => match opn with
              | 0 => vl = .bool true
              | 1 => vl = .bool true
              | 2 => vl = .agg #[.int .i64 fo, .int .i64 f1, .int .i64 f2, .int .i64 f3]
              | 3 => vl = .slice (some ⟨g, 0, none⟩) j c'
              | 4 => vl = .int .i64 (K : Int)
              | 5 => vl = .int .i64 (J : Int)
              | 6 => vl = .pointer (some ⟨g, J * 4, none⟩)
              | 7 => vl = .agg #[.int .i64 fo, .int .i64 f1, .int .i64 f2, .int .i64 f3]
              | 8 => vl = .bool true
              | 9 => vl = .bool true
              | 10 => vl = .bool true
              | 11 => vl = .bool true
              | 12 => vl = .bool true
              | 13 => vl = .bool true
              | _ => True) (fun _ _ wv => Below W4.heap.size W4 wv) (Below.refl _ _).drew (Rgs.steps_of ?_) ?_
          · refine ⟨?_, ?_, ?_, ?_, ?_, ?_, ?_, ?_, ?_, ?_, ?_, ?_, ?_, ?_, trivial⟩
            · intro a w1 live S E D C2 h0 hk hW
              have e11 : a.eval (.tmp 11) = .bool true := E 11 rfl
              exact Rgs.val rfl (Reg.wanted_free rfl) (.bool true) (by have c := Reg.consts a; generalize a.eval = ρ at *; simp [execOp, go_sem, c.1, c.2, e11]) rfl hW
            · intro a w1 live S E D C2 h0 hk hW
              have d0 : a.eval (.tmp 76) = .bool true := D 0 rfl _ _ rfl rfl
              exact Rgs.val rfl (Reg.wanted_free rfl) (.bool true) (by have c := Reg.consts a; generalize a.eval = ρ at *; simp [execOp, go_sem, c.1, c.2, d0]) rfl hW
            · intro a w1 live S E D C2 h0 hk hW
              have dg : a.eval (.tmp 77) = .bool true := D 1 rfl _ _ rfl rfl
              have e10 : a.eval (.tmp 10) = .pointer (some ⟨g3, 0, none⟩) := E 10 rfl
              have hc0 := (HF3.out.on hW).c0
              have hc1 := (HF3.out.on hW).c1
              have hc2 := (HF3.out.on hW).c2
              have hc3 := (HF3.out.on hW).c3
              exact Rgs.val rfl (Reg.wanted_if rfl rfl dg rfl) (.agg #[.int .i64 fo, .int .i64 f1, .int .i64 f2, .int .i64 f3]) (by have c := Reg.consts a; generalize a.eval = ρ at *; simp [execOp, go_sem, c.1, c.2, e10, hc0, hc1, hc2, hc3]) rfl hW
            · intro a w1 live S E D C2 h0 hk hW
              have dg : a.eval (.tmp 77) = .bool true := D 1 rfl _ _ rfl rfl
              have e5 : a.eval (.tmp 5) = .slice (some ⟨g, 0, none⟩) j c' := E 5 rfl
              exact Rgs.val rfl (Reg.wanted_if rfl rfl dg rfl) (.slice (some ⟨g, 0, none⟩) j c') (by have c := Reg.consts a; generalize a.eval = ρ at *; simp [execOp, go_sem, c.1, c.2, e5]) rfl hW
            · intro a w1 live S E D C2 h0 hk hW
              have dg : a.eval (.tmp 77) = .bool true := D 1 rfl _ _ rfl rfl
              have e9 : a.eval (.tmp 9) = .int .i64 (K : Int) := E 9 rfl
              exact Rgs.val rfl (Reg.wanted_if rfl rfl dg rfl) (.int .i64 (K : Int)) (by have c := Reg.consts a; generalize a.eval = ρ at *; simp [execOp, go_sem, c.1, c.2, e9]) rfl hW
            · intro a w1 live S E D C2 h0 hk hW
              have dg : a.eval (.tmp 77) = .bool true := D 1 rfl _ _ rfl rfl
              have d4 : a.eval (.tmp 80) = .int .i64 (K : Int) := D 4 rfl _ _ rfl rfl
              exact Rgs.val rfl (Reg.wanted_if rfl rfl dg rfl) (.int .i64 (J : Int)) (by have c := Reg.consts a; generalize a.eval = ρ at *; simp [execOp, go_sem, c.1, c.2, d4, hd4, hd4', HJX.out]) rfl hW
            · intro a w1 live S E D C2 h0 hk hW
              have dg : a.eval (.tmp 77) = .bool true := D 1 rfl _ _ rfl rfl
              have d3 : a.eval (.tmp 79) = .slice (some ⟨g, 0, none⟩) j c' := D 3 rfl _ _ rfl rfl
              have d5 : a.eval (.tmp 81) = .int .i64 (J : Int) := D 5 rfl _ _ rfl rfl
              have ead := mk_addI g (J * 4)
              exact Rgs.val rfl (Reg.wanted_if rfl rfl dg rfl) (.pointer (some ⟨g, J * 4, none⟩)) (by have c := Reg.consts a; generalize a.eval = ρ at *; simp [execOp, go_sem, c.1, c.2, d3, d5, ead, hJj]) rfl hW
            · intro a w1 live S E D C2 h0 hk hW
              have dg : a.eval (.tmp 77) = .bool true := D 1 rfl _ _ rfl rfl
              have d6 : a.eval (.tmp 82) = .pointer (some ⟨g, J * 4, none⟩) := D 6 rfl _ _ rfl rfl
              have hc0 := (HFS.out w1 (HBW.out.trans (hW.mono HBW.out.size))).1
              have hc1 := (HFS.out w1 (HBW.out.trans (hW.mono HBW.out.size))).2.1
              have hc2 := (HFS.out w1 (HBW.out.trans (hW.mono HBW.out.size))).2.2.1
              have hc3 := (HFS.out w1 (HBW.out.trans (hW.mono HBW.out.size))).2.2.2
              exact Rgs.val rfl (Reg.wanted_if rfl rfl dg rfl) (.agg #[.int .i64 fo, .int .i64 f1, .int .i64 f2, .int .i64 f3]) (by have c := Reg.consts a; generalize a.eval = ρ at *; simp [execOp, go_sem, c.1, c.2, d6, hc0, hc1, hc2, hc3]) rfl hW
            · intro a w1 live S E D C2 h0 hk hW
              have dg : a.eval (.tmp 77) = .bool true := D 1 rfl _ _ rfl rfl
              have d2 : a.eval (.tmp 78) = .agg #[.int .i64 fo, .int .i64 f1, .int .i64 f2, .int .i64 f3] := D 2 rfl _ _ rfl rfl
              have d7 : a.eval (.tmp 83) = .agg #[.int .i64 fo, .int .i64 f1, .int .i64 f2, .int .i64 f3] := D 7 rfl _ _ rfl rfl
              exact Rgs.val rfl (Reg.wanted_if rfl rfl dg rfl) (.bool true) (by have c := Reg.consts a; generalize a.eval = ρ at *; simp [execOp, go_sem, c.1, c.2, d2, d7, qf]) rfl hW
            · intro a w1 live S E D C2 h0 hk hW
              have d1 : a.eval (.tmp 77) = .bool true := D 1 rfl _ _ rfl rfl
              have d8 : a.eval (.tmp 84) = .bool true := D 8 rfl _ _ rfl rfl
              exact Rgs.val rfl (Reg.wanted_free rfl) (.bool true) (by have c := Reg.consts a; generalize a.eval = ρ at *; simp [execOp, go_sem, c.1, c.2, d1, d8]) rfl hW
            · intro a w1 live S E D C2 h0 hk hW
              have d9 : a.eval (.tmp 85) = .bool true := D 9 rfl _ _ rfl rfl
              exact Rgs.val rfl (Reg.wanted_free rfl) (.bool true) (by have c := Reg.consts a; generalize a.eval = ρ at *; simp [execOp, go_sem, c.1, c.2, d9]) rfl hW
            · intro a w1 live S E D C2 h0 hk hW
              have dg : a.eval (.tmp 86) = .bool true := D 10 rfl _ _ rfl rfl
              refine Rgs.call rfl (Reg.wanted_if rfl rfl dg rfl) 9 #[] (by have c := Reg.consts a; generalize a.eval = ρ at *; simp [execOp, go_sem, c.1, c.2, go_sem]) ?_
              refine (CK.out w1 (HB4.out.trans (hW.mono HB4.out.size))).mono ?_
              rintro e w5 ⟨rfl, hb5⟩
              exact ⟨_, rfl, rfl, hW.trans (hb5.mono hW.size), (fun jq vq _ hq => by
                revert hq
                match jq with
                | 0 | 1 | 2 | 3 | 4 | 5 | 6 | 7 | 8 | 9 | 10 | 11 | 12 | 13 | _ + 14 => exact fun hq => hq)⟩
            · intro a w1 live S E D C2 h0 hk hW
              have d10 : a.eval (.tmp 86) = .bool true := D 10 rfl _ _ rfl rfl
              have d11 : a.eval (.tmp 87) = .bool true := D 11 rfl _ _ rfl rfl
              exact Rgs.val rfl (Reg.wanted_free rfl) (.bool true) (by have c := Reg.consts a; generalize a.eval = ρ at *; simp [execOp, go_sem, c.1, c.2, d10, d11]) rfl hW
            · intro a w1 live S E D C2 h0 hk hW
              have d12 : a.eval (.tmp 88) = .bool true := D 12 rfl _ _ rfl rfl
              exact Rgs.val rfl (Reg.wanted_free rfl) (.bool true) (by have c := Reg.consts a; generalize a.eval = ρ at *; simp [execOp, go_sem, c.1, c.2, d12]) rfl hW
          · intro a w9 live hs hd E D Hl hW
            have x4 : a.eval (.tmp 4) = .bool true := by
              obtain ⟨v, hv, he⟩ := D 13 _ rfl
              exact (he 4 rfl).trans hv
            rw [Rgs.act_ws a _ _ hs hd E [76, 77, 78, 79, 80, 81, 82, 83, 84, 85, 86, 87, 88, 4] (by kernel_rfl)]
            simp only [List.foldl, List.setIfInBounds_toArray, List.set_cons_succ, List.set_cons_zero, x4]
            have HZ9 := HB4.out.trans (hW.mono HB4.out.size)
            have HW9 := Lib.hid hW
            clear E D Hl hW x4 
            generalize a.eval = ρ
            clear a hs hd
            go_wp2_with fail
            go_ret
            exact ⟨rfl, HZ9⟩
        · have hfet := fet_no (L := NM) (k := K) (by rw [HLM.out, hJ, hR]; omega)
          rw [hfet.1, hfet.2] at CF
          dsimp only [iv] at CF
          have QF := Lib.hid fun W => in_eqs ⟨0, 0, 0, 0⟩ ⟨0, 0, 0, 0⟩ W
          rw [decide_eq_true rfl] at QF
          dsimp only [iv] at QF
          have hd4 := HD4.out.1
          have hm4 := HM4.out.1
          have hd4' := HD4.out.2
          have hm4' := HM4.out.2
          have hsp : (((R : Int) != 0) = true ∧ R ≠ 0) ∨ (R = 0 ∧ (j : Int) ≤ (J : Int)) := by
            by_cases h0 : R = 0
            · exact .inr ⟨h0, by omega⟩
            · exact .inl ⟨by simpa using h0, h0⟩
          clear hfet hyes hR hJ HD4 HM4 HBT
          have hw4 := HW4.out
          have hK := HHK.out
          have hwJ := HJW.out
          clear HW4 HHK HJW
          go_upto_region 14 with (go_at_call 12; refine CF.out.mono ?_; rintro e w3 ⟨rfl, hb3⟩)
          have hf3 := fo_new w3 0 0 0 0
          have hb4 := hb3.trans ((bl1 w3 (.cells #[.int .i64 0, .int .i64 0, .int .i64 0, .int .i64 0] 26)).mono hb3.size)
          have HB4 := Lib.hid (HB2.out.trans (hb4.mono HB2.out.size))
          obtain ⟨x0, x1, x2, x3⟩ := hf3
          dsimp only at x0 x1 x2 x3
          generalize w3.alloc (.cells #[.int .i64 0, .int .i64 0, .int .i64 0, .int .i64 0] 26) = W4 at x0 x1 x2 x3 HB4 ⊢
          generalize w3.heap.size = g3 at x0 x1 x2 x3 ⊢
          clear hb3 hb4 HB2 HO2 CF hw4
          have qf := QF.out
          rcases hsp with ⟨hs1, hs2⟩ | ⟨hR0, hs2⟩
          · have hs3 : ¬ (R : Int) = 0 := by omega
            go_wp2_with fail
            refine (CK.out W4 HB4.out).mono ?_
            rintro e w5 ⟨rfl, hb5⟩
            go_wp2_with fail
            go_ret
            exact ⟨rfl, HB4.out.trans (hb5.mono HB4.out.size)⟩
          · have hm5 : (K : Int) % 4 = 0 := by rw [hm4, hR0]; rfl
            have hm5' : (K : Int).tmod 4 = 0 := by rw [hm4', hR0]; rfl
            have hbm : ((K : Int) % 4 != 0) = false := by rw [hm5]; rfl
            have hbj : decide ((j : Int) ≤ (J : Int)) = true := decide_eq_true hs2
            clear hm4 hm4' hR0
            go_wp2_with fail
            refine (CK.out W4 HB4.out).mono ?_
            rintro e w5 ⟨rfl, hb5⟩
            go_wp2_with fail
            go_ret
            exact ⟨rfl, HB4.out.trans (hb5.mono HB4.out.size)⟩
end Go.Proofs.YtomaommamjhmmaaDoor
