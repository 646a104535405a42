/- GraphTells: for any tape of numbers, any two numbers, any configuration (cut to a few), any matrix (of its first eight rows, as it is and cut to a square): the program's answers are the document's own; chapter 7's runs are as they must be. -/
import Derived.Test.YtknlhhbkahollaaFrameC
import Derived.Test.YtknlhhbkahollaaCopb
import Derived.Test.YtknlhhbkahollaaCbox
import Derived.Test.YtknlhhbkahollaaSam7
import Derived.Test.YtknlhhbkahollaaGclu
import Derived.Test.YtknlhhbkahollaaGkno
import Derived.Deep.CutBlock
namespace Go.Proofs.Ytknlhhbkahollaa.graphTells
open Go.ChangeShapes Go.WideShapes Go.ChangeAt Go.RowKit Tab
set_option linter.unusedSimpArgs false
set_option linter.unusedVariables false

set_option maxRecDepth 100000 in
set_option maxHeartbeats 8000000 in
theorem walk (A0 : Option Addr) (n0 k0 : Nat) (f0 : Nat → Int) (a1 : Int) (a2 : Int) (X3a X3b X3c : Option Addr) (x3a x3b x3c y3a y3b y3c : Nat) (P3 : List PtV) (C3 : List ChV) (A4 : Option Addr) (n4 k4 : Nat) (l4 : Nat → Nat) (m4 : Nat → Nat → Bool) (w : World) (r0 : RdC w w.heap.size A0 n0 fun j => .int .i64 (f0 j)) (c0 : n0 ≤ k0) (b0 : k0 ≤ 140737488351232) (w0 : ∀ j, j < n0 → (Lit.int .i64 (f0 j)).wf = true) (w1 : (Lit.int .i64 a1).wf = true) (w2 : (Lit.int .i64 a2).wf = true) (r3 : CfW w w.heap.size X3a X3b x3a x3b P3 C3) (c3 : x3a ≤ y3a) (d3 : x3b ≤ y3b) (b3 : y3a ≤ maxLen) (e3 : y3b ≤ maxLen) (r4 : RdM w w.heap.size A4 n4 l4 m4) (c4 : n4 ≤ k4) (b4 : k4 ≤ maxLen) (z4 : ∀ j, j < n4 → l4 j ≤ maxLen) :
    Calls Try.prog 4 #[.slice A0 n0 k0, .int .i64 a1, .int .i64 a2, .agg #[.slice X3a x3a y3a, .slice X3b x3b y3b, .slice X3c x3c y3c], .slice A4 n4 k4] w (Ans (.bool true) w) := by
  obtain ⟨N, hN⟩ : ∃ N, N = min n4 8 := ⟨_, rfl⟩
  have hN8 : N ≤ 8 := by omega
  obtain ⟨M1, hM1⟩ : ∃ M1, M1 = min x3a 8 := ⟨_, rfl⟩
  obtain ⟨M2, hM2⟩ : ∃ M2, M2 = min x3b 20 := ⟨_, rfl⟩
  have hbw := bl1 w (.cells #[.slice X3a x3a y3a, .slice X3b x3b y3b, .slice X3c x3c y3c] 26)
  have hbx0 := box_vec w (.slice X3a x3a y3a) (.slice X3b x3b y3b) (.slice X3c x3c y3c) 26
  have HR0 := Lib.hid ((r0.below hbw).more hbw.size)
  have HCX := Lib.hid ((r3.on hbw).front (m1 := M1) (m2 := M2) (by omega) (by omega))
  have HRM := Lib.hid ((r4.on hbw).front N (by omega))
  have HNE := Lib.hid hN
  have HK4 := Lib.hid b4
  have HFW := Lib.hid fun w' => few_any X3a X3b X3c x3a x3b x3c y3a y3b y3c w' c3 d3 b3 e3
  rw [← hM1, ← hM2] at HFW
  have hM1b : M1 ≤ 8 := by omega
  have hM2b : M2 ≤ 20 := by omega
  have HBW0 := Lib.hid hbw
  have HBX0 := Lib.hid hbx0
  clear r0 r3 r4 z4 b4 hN hM1 hM2 hbw hbx0 w0 w1 w2 c3 d3 b3 e3
  go_enter Try.func4, Try.ntmps4
  go_upto_region 1 with fail
  generalize w.alloc (.cells #[.slice X3a x3a y3a, .slice X3b x3b y3b, .slice X3c x3c y3c] 26) = W0 at HR0 HCX HRM HBW0 HBX0 ⊢
  obtain ⟨gi, hgi⟩ : ∃ gi, gi = w.heap.size := ⟨_, rfl⟩
  rw [← hgi] at HBX0 ⊢
  have HGI := Lib.hid hgi
  clear hgi
  go_wp2_with fail
  refine (config_box A0 n0 k0 f0 W0 HR0.out (by omega)).mono ?_
  rintro e wc ⟨A1, A2, A3, n1, n2, n3, c1, c2, c3, P, C, T, rfl, hCf, q1, q2, q3, q4, q5, hco, _, _, _, _, _, hb1⟩
  have hbl := bl1 wc (.cells #[.slice A1 n1 c1, .slice A2 n2 c2, .slice A3 n3 c3] 26)
  have hbox := box_vec wc (.slice A1 n1 c1) (.slice A2 n2 c2) (.slice A3 n3 c3) 26
  have hb2 := hb1.trans (hbl.mono hb1.size)
  have HCF := Lib.hid (hCf.on hbl)
  have HCX2 := Lib.hid (HCX.out.on hb2)
  have HRM2 := Lib.hid (HRM.out.on hb2)
  have HBW2 := Lib.hid (HBW0.out.trans (hb2.mono HBW0.out.size))
  have HBXI := Lib.hid (HBX0.out.on hb2)
  have HBXC := Lib.hid hbox
  clear hCf hb1 hbl hbox hb2 hco HR0 HCX HRM HBW0 HBX0
  go_upto_region 2 with fail
  generalize wc.alloc (.cells #[.slice A1 n1 c1, .slice A2 n2 c2, .slice A3 n3 c3] 26) = W2 at HCF HCX2 HRM2 HBW2 HBXI HBXC ⊢
  obtain ⟨gc, hgc⟩ : ∃ gc, gc = wc.heap.size := ⟨_, rfl⟩
  rw [← hgc] at HBXC ⊢
  clear hgc
  obtain ⟨m0, m1, m2⟩ := HBXI.out.three
  go_wp2_with fail
  refine (HFW.out W2).mono ?_
  rintro e w3 ⟨rfl, hb3⟩
  have hbl := bl1 w3 (.cells #[.slice X3a M1 y3a, .slice X3b M2 y3b, .slice X3c x3c y3c] 26)
  have hbox := box_vec w3 (.slice X3a M1 y3a) (.slice X3b M2 y3b) (.slice X3c x3c y3c) 26
  have hb4 := hb3.trans (hbl.mono hb3.size)
  have HCF3 := Lib.hid (HCF.out.on hb4)
  have HCX3 := Lib.hid (HCX2.out.on hb4)
  have HRM3 := Lib.hid (HRM2.out.on hb4)
  have HBW3 := Lib.hid (HBW2.out.trans (hb4.mono HBW2.out.size))
  have HBC3 := Lib.hid (HBXC.out.on hb4)
  have HBX3 := Lib.hid hbox
  clear hb3 hbl hbox hb4 HCF HCX2 HRM2 HBW2 HBXI HBXC HFW m0 m1 m2
  go_upto_region 3 with fail
  generalize w3.alloc (.cells #[.slice X3a M1 y3a, .slice X3b M2 y3b, .slice X3c x3c y3c] 26) = W3 at HCF3 HCX3 HRM3 HBW3 HBC3 HBX3 ⊢
  obtain ⟨gx, hgx⟩ : ∃ gx, gx = w3.heap.size := ⟨_, rfl⟩
  rw [← hgx] at HBX3 ⊢
  clear hgx
  go_upto_if 23 with fail
  go_cut [4] from 24 to 25 (fun s4 wx => s4 = .slice A4 N k4 ∧ wx = W3)
  case first =>
    by_cases h8 : 8 < n4
    · have h8i : (8 : Int) < (n4 : Int) := by omega
      have h8c : 8 ≤ k4 := by omega
      go_wp2_with fail
      go_meet
      case rel => exact ⟨by rw [HNE.out, Nat.min_eq_right (by omega)], rfl⟩
    · have h8i : ¬ (8 : Int) < (n4 : Int) := by omega
      go_wp2_with fail
      go_meet
      case rel => exact ⟨by rw [HNE.out, Nat.min_eq_left (by omega)], rfl⟩
  case rest =>
    obtain ⟨rfl, rfl⟩ := hcut
    have hmk := run_makeBB N (by omega)
    have hmb := run_makeB N (by omega)
    obtain ⟨B, hB⟩ : ∃ B, B = wc.heap.size := ⟨_, rfl⟩
    have HBB := Lib.hid hB
    have hb0 : Below B wc (wc.alloc (.cells (madeCells #[.slice none 0 0] N) 40)) := by rw [hB]; exact bl1 wc _
    have hM0 := Mat.start wc B N (by omega) 40 (fun _ _ => false) (fun _ => 0)
    clear hB
    go_wp2_with fail
    generalize wc.alloc (.cells (madeCells #[.slice none 0 0] N) 40) = V0 at hb0 hM0 ⊢
    obtain ⟨g, hg⟩ : ∃ g, g = wc.heap.size := ⟨_, rfl⟩
    rw [← hg] at hM0 ⊢
    clear hg hmk
    go_loopw [14, 31] (fun _ s wr => ∃ (i : Nat) (G : Nat → Nat) (m : Nat → Nat → Bool), i ≤ N ∧ s = .int .i64 i ∧ Mat wr B g N i G m ∧ Below B wc wr) (fun _ s _ => N - (intOf s).toNat)
    case atStart => exact ⟨0, _, _, by omega, rfl, hM0, hb0⟩
    case round =>
      obtain ⟨i, G, m, hi, rfl, hM, hb⟩ := hrel
      clear hM0 hb0
      by_cases hlt : i < N
      · have hbl := bl1 wr (.cells (madeCells #[.bool false] N) 4)
        have hM1 := hM.on hbl
        have hV : Vec (wr.alloc (.cells (madeCells #[.bool false] N) 4)) wr.heap.size N fun _ => .bool false := Vec.lit wr _ _ N _ fun j hj => made_get _ N j hj
        have hgl : g < wr.heap.size := by
          obtain ⟨f, h1, _⟩ := hM.outer
          exact h1.lt
        have hBg := hM.low
        have hb1 := hb.trans (hbl.mono (by omega))
        have hxG : ∀ j, j < i → G j ≠ wr.heap.size := fun j hj => by
          have := (hM.rows j hj).lt
          omega
        obtain ⟨f, hf, _⟩ := hM1.outer
        have d0 := hf.cell i hlt
        have d1 := hf.thaw i
        have hM2 := hM1.push hV (by omega) (by omega) hxG hlt
        have hb2 := hb1.setCell (p := ⟨g, i, none⟩) hBg (.slice (some ⟨wr.heap.size, 0, none⟩) N N)
        have HM2 := Lib.hid hM2
        have HB2 := Lib.hid hb2
        have HXB := Lib.hid (show B ≤ wr.heap.size by omega)
        clear hM hM1 hV hb hb1 hM2 hb2 hf hbl hgl hxG hBg
        go_upto_region 10 with fail
        generalize (wr.alloc (.cells (madeCells #[.bool false] N) 4)).setCell ⟨g, i, none⟩ (.slice (some ⟨wr.heap.size, 0, none⟩) N N) = V1 at HM2 HB2 ⊢
        generalize wr.heap.size = x at HM2 HXB ⊢
        have hM2 := HM2.out.on (w' := V1.drew) (Below.refl _ _).drew
        obtain ⟨x', hx', hxg, k1, hv⟩ := hM2.row (i := i) (by omega) (by omega)
        rw [put1_same] at hx'
        subst hx'
        have k1 : V1.cell? ⟨g, i, none⟩ = some (.slice (some ⟨x, 0, none⟩) N N) := k1
        obtain ⟨ad, R, cR, rfl, had, c1', hcR, hrow⟩ := (HRM3.out.below (HBB.out ▸ HB2.out)).at_ hlt
        have hszd : wc.heap.size ≤ V1.drew.heap.size := HB2.out.size
        obtain ⟨Nc, w5, hcp, hv5, hg5⟩ := copy_bools hv (m := m4 i) (c := cR) ((hrow.below (Below.refl _ _).drew).more hszd) (Nat.le_refl _)
        have HMT := Lib.hid (hM2.turn (i := i) (by omega) (put1_same _ _ _) hg5 hv5)
        have HB5 := Lib.hid (HB2.out.drew.grown hg5 (by have := HB2.out.size; have := HBB.out; omega) (fun k hk => by injection hk with hk; have := HXB.out; omega))
        generalize l4 i = li at c1' hcR hcp
        clear hM2 hv hv5 hg5 d0 d1 hrow hxg had hszd
        go_still_tail 8, (by kernel_rfl)
        change wpList _ _ _ _ _ V1.drew
        go_wp2_with fail
        go_roundw
        case rel => exact ⟨i + 1, _, _, by omega, by go_num, HMT.out, HB5.out⟩
        case measure => simp [intOf]; omega
      · have hge : N ≤ i := by omega
        obtain rfl : N = i := by omega
        have HM := Lib.hid hM
        have hb0 : Below wc.heap.size wc wr := HBB.out ▸ hb
        have HB0 := Lib.hid hb0
        clear hM hb hb0 hmb
        have HSC := Lib.hid fun (a b : Int) w' (hb : Below wr.heap.size wr w') => same7_any A1 A2 A3 n1 n2 n3 c1 c2 c3 P C a b w' ((HCF3.out.on HB0.out).on hb) (by omega) (by omega)
        have HSX := Lib.hid fun (a b : Int) w' (hb : Below wr.heap.size wr w') => same7_any X3a X3b X3c M1 M2 x3c y3a y3b y3c (P3.take M1) (C3.take M2) a b w' ((HCX3.out.on HB0.out).on hb) (by omega) (by omega)
        have HMC := Lib.hid fun w' (hb : Below wr.heap.size wr w') => (HBC3.out.on HB0.out).on hb
        have HMX := Lib.hid fun w' (hb : Below wr.heap.size wr w') => (HBX3.out.on HB0.out).on hb
        have HRW := Lib.hid fun w' (hb : Below wr.heap.size wr w') => (HRM3.out.on HB0.out).on hb
        have HSQ := Lib.hid fun w' (hb : Below wr.heap.size wr w') => (HM.out.on hb).rdm
        have HEND := Lib.hid (HBW3.out.trans (HB0.out.mono HBW3.out.size))
        obtain ⟨m0, m1, m2⟩ := (HMC.out wr (Below.refl _ _)).three
        clear HM HB0 HCF3 HCX3 HRM3 HBW3 HBC3 HBX3
        go_wp2_with fail
        refine (HSC.out _ _ wr (Below.refl _ _)).mono ?_
        rintro e v1 ⟨rfl, k1⟩
        have K1 := Lib.hid k1
        obtain ⟨i0, i1, i2⟩ := (HMC.out v1 k1).three
        clear m0 m1 m2 k1
        go_wp2_with fail
        refine (HSC.out _ _ v1 K1.out).mono ?_
        rintro e v2 ⟨rfl, k2⟩
        have K2 := Lib.hid (K1.out.trans (k2.mono K1.out.size))
        obtain ⟨m0, m1, m2⟩ := (HMX.out v2 K2.out).three
        clear i0 i1 i2 k2
        go_wp2_with fail
        refine (HSX.out _ _ v2 K2.out).mono ?_
        rintro e v3 ⟨rfl, k3⟩
        have K3 := Lib.hid (K2.out.trans (k3.mono K2.out.size))
        obtain ⟨i0, i1, i2⟩ := (HMX.out v3 K3.out).three
        clear m0 m1 m2 k3
        go_wp2_with fail
        refine (HSX.out _ _ v3 K3.out).mono ?_
        rintro e v4 ⟨rfl, k4'⟩
        have K4 := Lib.hid (K3.out.trans (k4'.mono K3.out.size))
        clear i0 i1 i2 k4'
        go_wp2_with fail
        refine (closure_u A4 N k4 l4 m4 v4 (HRW.out v4 K4.out) (by omega)).mono ?_
        rintro e v5 ⟨Z5, z5, rfl, r5, k5⟩
        have K5 := Lib.hid (K4.out.trans (k5.mono K4.out.size))
        have R5 := Lib.hid r5
        clear r5 k5
        go_wp2_with fail
        refine (rclosure_u A4 N k4 l4 m4 v5 (HRW.out v5 K5.out) (by omega)).mono ?_
        rintro e v6 ⟨Z6, z6, rfl, r6, k6⟩
        have K6 := Lib.hid (K5.out.trans (k6.mono K5.out.size))
        have R5' := Lib.hid (R5.out.on k6)
        have R6 := Lib.hid r6
        have hcl := cloN_le N l4
        clear r6 k6
        go_wp2_with fail
        refine (matrix_u Z5 Z6 (cloN N l4) z5 z6 _ v6 R5'.out R6.out (by omega)).mono ?_
        rintro e v7 ⟨rfl, k7⟩
        have K7 := Lib.hid (K6.out.trans (k7.mono K6.out.size))
        clear k7 hcl
        go_wp2_with fail
        refine (closure_u (some ⟨g, 0, none⟩) N N (fun _ => N) m v7 (HSQ.out v7 K7.out) (by omega)).mono ?_
        rintro e v8 ⟨Z8, z8, rfl, r8, k8⟩
        have K8 := Lib.hid (K7.out.trans (k8.mono K7.out.size))
        have R8 := Lib.hid r8
        clear r8 k8
        go_wp2_with fail
        refine (rclosure_u (some ⟨g, 0, none⟩) N N (fun _ => N) m v8 (HSQ.out v8 K8.out) (by omega)).mono ?_
        rintro e v9 ⟨Z9, z9, rfl, r9, k9⟩
        have K9 := Lib.hid (K8.out.trans (k9.mono K8.out.size))
        have R8' := Lib.hid (R8.out.on k9)
        have R9 := Lib.hid r9
        have hcl := cloN_le N (fun _ => N)
        clear r9 k9
        go_wp2_with fail
        refine (matrix_u Z8 Z9 (cloN N (fun _ => N)) z8 z9 _ v9 R8'.out R9.out (by omega)).mono ?_
        rintro e v10 ⟨rfl, k10⟩
        have K10 := Lib.hid (K9.out.trans (k10.mono K9.out.size))
        clear k10 hcl
        go_wp2_with fail
        refine (known7_any v10).mono ?_
        rintro e v11 ⟨rfl, k11⟩
        have K11 := K10.out.trans (k11.mono K10.out.size)
        go_wp2_with fail
        go_ret
        exact Ans.mk rfl (HEND.out.trans (K11.mono HEND.out.size))

set_option maxRecDepth 100000 in
theorem lifted (os : Os) (started : os.Started) (H : Type) (enc : TypeId × Value → H) :
    ReturnsInHanded {} Try.checked os 4 .any (Rows.graphTellsSpec.pre6 enc Try.prog Try.f4 Rows.graphTellsRow.domain false) (Rows.graphTellsSpec.post enc Try.prog Try.f4 false true false false) := by
  refine returnsInHanded_of_change_sized (C := Try.checked) own started (by kernel_rfl) Try.func4
    (ChangeSpec.witness6 (enc := enc) (C := Try.checked) false ⟨#[], #[.slice none 0 0, .int .i64 0, .int .i64 0, .agg #[.slice none 0 0, .slice none 0 0, .slice none 0 0], .slice none 0 0], []⟩ 8 (by kernel_rfl) (by kernel_rfl) (by kernel_rfl) (by kernel_rfl)) ?_
  intro W base args ds gs before hval0 hW hcnd hsz0 _
  have hval : ∀ (j : Nat) t v, Try.f4.params[j]? = some t → args[j]? = some v → Value.okWide Try.prog W .any base t v := hval0
  have hW' := hW
  obtain ⟨p, q, hA0, hV, rfl, hfz, hnd⟩ := hW
  have hA : DataW.TrodAll enc Try.prog W 0 (fun _ => true) true Try.f4.params.toList args.toList ds p := hA0
  have hsz : (DataW.weightsEach Try.prog (Try.f4.params.toList ++ Rows.graphTellsSpec.plain.varTypes Try.prog) (ds ++ gs)).all (· ≤ reachBytes) = true := hsz0
  rw [Try.params4] at hA hval hsz
  obtain ⟨v0, vs0, d0, ds0, p0, q0, hargs, rfl, rfl, h0, r0⟩ := trodAll_cons hA
  obtain ⟨v1, vs1, d1, ds1, p1, q1, rfl, rfl, rfl, h1, r1⟩ := trodAll_cons r0
  obtain ⟨v2, vs2, d2, ds2, p2, q2, rfl, rfl, rfl, h2, r2⟩ := trodAll_cons r1
  obtain ⟨v3, vs3, d3, ds3, p3, q3, rfl, rfl, rfl, h3, r3⟩ := trodAll_cons r2
  obtain ⟨v4, vs4, d4, ds4, p4, q4, rfl, rfl, rfl, h4, r4⟩ := trodAll_cons r3
  obtain ⟨rfl, rfl, rfl⟩ := trodAll_nil r4
  obtain rfl : args = #[v0, v1, v2, v3, v4] := by cases args; simp_all
  obtain ⟨rfl, rfl⟩ := trodVars_none hV
  obtain ⟨A0, n0, k0, rfl⟩ := okWide_slice Try.underlying28 (hval 0 28 v0 rfl rfl)
  have t0 := h0
  have lt0 : ∀ x ∈ p0, x.block < W.heap.size := by obtain ⟨m, hm⟩ := t0; exact DataW.trod_lt m _ _ _ hm
  obtain ⟨f0, u0, c0, b0, w0⟩ := ints_sized h0 (fun elems spare e => sized_slice hsz (j := 0) (t := 28) (e := 3) rfl (by rw [← e]; rfl) Try.underlying28)
  obtain ⟨a1, rfl, rfl, rfl, w1⟩ := open_int Try.underlying3 (hval 1 3 v1 rfl rfl) h1
  obtain ⟨a2, rfl, rfl, rfl, w2⟩ := open_int Try.underlying3 (hval 2 3 v2 rfl rfl) h2
  have t3 := h3
  have lt3 : ∀ x ∈ p3, x.block < W.heap.size := by obtain ⟨m, hm⟩ := t3; exact DataW.trod_lt m _ _ _ hm
  obtain ⟨X3a, X3b, X3c, x3a, x3b, x3c, y3a, y3b, y3c, P3, C3, rfl, u3, c3, d3, b3, e3⟩ := config_view (hval 3 26 v3 rfl rfl) h3
  obtain ⟨A4, n4, k4, rfl⟩ := okWide_slice Try.underlying38 (hval 4 38 v4 rfl rfl)
  have t4 := h4
  have lt4 : ∀ x ∈ p4, x.block < W.heap.size := by obtain ⟨m, hm⟩ := t4; exact DataW.trod_lt m _ _ _ hm
  obtain ⟨l4, m4, u4, c4, b4, z4⟩ := bools2_view h4
  clear hA0 hval0
  refine (walk A0 n0 k0 f0 a1 a2 X3a X3b X3c x3a x3b x3c y3a y3b y3c P3 C3 A4 n4 k4 l4 m4 W u0 c0 b0 w0 w1 w2 u3 c3 d3 b3 e3 u4 c4 b4 z4).mono fun e W' ⟨he, bel⟩ => ?_
  subst he
  exact ⟨_, rfl, _, _, _, [], _, [], hW', trodAll_mk1 (shut_bool Try.underlying4 _), (trodAll_cons_mk (Below.trod laidOut (by kernel_rfl) (of_decide_eq_true (by kernel_rfl)) t0 bel lt0) (trodAll_cons_mk (shut_int Try.underlying3 w1) (trodAll_cons_mk (shut_int Try.underlying3 w2) (trodAll_cons_mk (Below.trod laidOut (by kernel_rfl) (of_decide_eq_true (by kernel_rfl)) t3 bel lt3) (trodAll_cons_mk (Below.trod laidOut (by kernel_rfl) (of_decide_eq_true (by kernel_rfl)) t4 bel lt4) trodAll_mk0))))), rfl, bel.frame _, fun h => by cases h⟩

theorem proved : Rows.GraphTellsSaid :=
  OpenClaim.holds_of_wide 4 Try.f4 rfl rfl rfl rfl rfl rfl rfl ⟨rfl, rfl, rfl, rfl, rfl⟩ rfl rfl rfl rfl rfl (by kernel_rfl) Try.func4 (by kernel_rfl)
    (of_decide_eq_true (by kernel_rfl)) (by unfold Func.isWrapper; first | (rw [if_pos (by decide +kernel)]; kernel_rfl) | (rw [if_neg (by decide +kernel)]; exact ⟨rfl, rfl⟩))
    (fun os started H enc _ => lifted os started H enc)

end Go.Proofs.Ytknlhhbkahollaa.graphTells
