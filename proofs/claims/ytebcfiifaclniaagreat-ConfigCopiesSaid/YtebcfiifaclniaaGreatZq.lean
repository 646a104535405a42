/- ConfigCopies: a copy is the same, and its own: the walk. -/
import Derived.Test.YtebcfiifaclniaaGreatZj
import Derived.Test.YtebcfiifaclniaaGreatZp
import Derived.Test.YtebcfiifaclniaaGreatYq
import Derived.Test.YtebcfiifaclniaaGreatYj
import Derived.Test.YtebcfiifaclniaaGreatByc
namespace Go.Proofs.YtebcfiifaclniaaGreat
set_option maxRecDepth 100000
open Go.RowKit Tab
set_option linter.unusedSimpArgs false
set_option linter.unusedVariables false

def otherN : ByteArray := ⟨#[111, 116, 104, 101, 114]⟩
theorem other_ne : nmL 0 ≠ otherN := fun h => by
  have h2 := congrArg (fun b : ByteArray => b.data.toList.length) h
  revert h2
  decide
set_option maxHeartbeats 4000000 in
theorem copies12_walk (hW : ConfigW) (A : Option Addr) (n cap : Nat) (f : Nat → Int) (a1 : Int) (w : World) (hA : RdC w w.heap.size A n fun j => .int .i64 (f j)) (hn : n ≤ 140737488351232) :
    Calls Tryz.prog 3 #[.slice A n cap, .int .i64 a1] w (Ans (.bool true) w) := by
  have HWW := Lib.hid hW
  have HKN := Lib.hid fun V => known12_any hW V
  have HCF := Lib.hid (tape_rightn A n cap f w hA hn)
  clear hW hA hn
  go_enter Tryz.func3, Tryz.ntmps3
  go_wp2_with fail
  refine HCF.out.mono ?_
  rintro e w1 ⟨y, rfl, hyR, hyS, hyz, _, hyn, hb1⟩
  have hri : RiX y := RiX.of hyz
  have hbx := bl1 w1 (.cells #[.slice y.A1 y.n1 y.c1, .slice y.A2 y.n2 y.c2, .slice y.A3 y.n3 y.c3] 27)
  have hbo := box_vec w1 (.slice y.A1 y.n1 y.c1) (.slice y.A2 y.n2 y.c2) (.slice y.A3 y.n3 y.c3) 27
  have hyR1 := hyR.on hbx
  have hb1x := hb1.trans (hbx.mono hb1.size)
  go_upto_region 2 with fail
  generalize w1.alloc (.cells #[.slice y.A1 y.n1 y.c1, .slice y.A2 y.n2 y.c2, .slice y.A3 y.n3 y.c3] 27) = W1 at hbo hyR1 hb1x ⊢
  generalize w1.heap.size = g5 at hbo ⊢
  have HBO := Lib.hid fun V (hv : Below W1.heap.size W1 V) => (hbo.on hv).three
  have HYR := Lib.hid fun V (hv : Below W1.heap.size W1 V) => hyR1.on hv
  have HWB := Lib.hid fun V (hv : Below W1.heap.size W1 V) => hb1x.trans (hv.mono hb1x.size)
  have HBY : Hid (∀ V, Below W1.heap.size W1 V → Calls Tryz.prog 7 #[cfv y] V (MdA (bytesB y) V)) := Lib.hid fun V hv => rbytes_any y V (hyR1.on hv) hri hyS
  generalize bytesB y = BB at HBY
  have HCP := Lib.hid (HWW.out.copy y W1 hyR1)
  have HNE : Hid (∀ (P' : List Pq) (C' : List ChV) (T' : List NdT) (p : Pq), P'[0]? = some p → p.1.name = otherN → sameF y.P y.C y.T P' C' T' = false) := Lib.hid fun P' C' T' p hp hpn => sameF_no fun h => by
    have h0 : 0 < y.P.length := by have := hri.sz.1; omega
    have h1 := h.1.2.1 0 _ p (List.getElem?_eq_getElem h0) hp
    exact other_ne (((hyn 0 _ (List.getElem?_eq_getElem h0)).symm.trans h1.1).trans hpn)
  obtain ⟨m0, m1, m2⟩ := HBO.out W1 (Below.refl _ _)
  have HYZ := Lib.hid (And.intro hyz hyR.lens)
  have HYL := Lib.hid (And.intro hyR.pp.len (And.intro hyR.ch.len hyR.tb.len))
  clear hri hyn hyz hbx hbo hb1 hb1x hyR1 hyS HCF
  dsimp only [cfv] at HBY HCP
  go_wp2_with fail
  refine HCP.out.mono ?_
  rintro e w2 ⟨z, rfl, hzR, hzS, hzO, hb2⟩
  have hrz : RiX z := RiX.of (by rw [whF_same hzS hzR.lens HYZ.out.2]; exact HYZ.out.1)
  have hV := CvS.new hzO hzR hb2.size
  have hB := hb2.trans ((bl1 w2 (.cells #[.slice z.A1 z.n1 z.c1, .slice z.A2 z.n2 z.c2, .slice z.A3 z.n3 z.c3] 27)).mono hb2.size)
  have HSA : Hid (sameF y.P y.C y.T z.P z.C z.T = true) := Lib.hid (sameF_yes hzS.symm)
  have l1 : z.n1 = y.n1 := by rw [← hzR.pp.len, ← HYL.out.1]; exact hzS.1.1
  have l2 : z.n2 = y.n2 := by rw [← hzR.ch.len, ← HYL.out.2.1, hzS.1.2.2]
  have l3 : z.n3 = y.n3 := by rw [← hzR.tb.len, ← HYL.out.2.2]; exact hzS.2.1
  have hdp : ∀ (j : Nat) (a b : Pq), z.P[0]? = some a → z.P[j]? = some b → j ≠ 0 → ∀ k, obk a.1.pa = some k → obk b.1.pa ≠ some k := fun j a b ha hb hj => hzO.dp 0 j a b ha hb (Ne.symm hj)
  have hdt : ∀ (j : Nat) (a b : NdT), z.T[0]? = some a → z.T[j]? = some b → j ≠ 0 → ∀ k, obk a.A = some k → obk b.A ≠ some k := fun j a b ha hb hj => hzO.dt 0 j a b ha hb (Ne.symm hj)
  have h1 : 0 < z.P.length := by have := hrz.sz.1; omega
  have h3 : 0 < z.T.length := by have := hrz.sz.2.2.2.1; omega
  obtain ⟨x, hx⟩ : ∃ x, z.P[0]? = some x := ⟨_, List.getElem?_eq_getElem h1⟩
  obtain ⟨t0, ht⟩ : ∃ x, z.T[0]? = some x := ⟨_, List.getElem?_eq_getElem h3⟩
  have hxp : 1 ≤ x.1.pn := by
    have h := (ptE_right hx (hrz.pt 0 h1)).2.2
    unfold partF at h
    simp only [Bool.and_eq_true, decide_eq_true_eq] at h
    exact h.1.1
  have htl : t0.l ≠ [] := fun e => by
    have h := hrz.tb t0 (List.mem_of_getElem? ht)
    rw [e, tbW_nil] at h
    cases h
  have HDP := Lib.hid fun (j : Nat) (b : Pq) => hdp j x b hx
  have HDT := Lib.hid fun (j : Nat) (b : NdT) => hdt j t0 b ht
  have HTL := Lib.hid htl
  have hn1 : 0 < z.n1 := by rw [← hzR.pp.len]; exact h1
  have hn3 : 0 < z.n3 := by rw [← hzR.tb.len]; exact h3
  have hn2 : z.n2 ≤ 8 := by rw [← hzR.ch.len]; exact hrz.sz.2.2.1
  clear hzR hzS hzO hrz hdp hdt h1 h3 hb2 HCP m0 m1 m2 HYZ HYL hyR htl
  obtain ⟨E1, E2, E3, n1, n2, n3, c1, c2, c3, P, C, T⟩ := z
  dsimp only [cfv] at hV hB HSA l1 l2 l3 hx ht hn1 hn2 hn3 ⊢
  have HL := Lib.hid (And.intro l1 (And.intro l2 l3))
  clear l1 l2 l3
  go_upto_region 3 with fail
  generalize w2.alloc (.cells #[.slice E1 n1 c1, .slice E2 n2 c2, .slice E3 n3 c3] 27) = V0 at hV hB ⊢
  generalize w2.heap.size = g6 at hV ⊢
  have HV := Lib.hid hV
  have HB := Lib.hid hB
  obtain ⟨m0, m1, m2⟩ := HBO.out V0 hB
  obtain ⟨d0, d1, d2⟩ := hV.s.cells
  have HS1 := Lib.hid (HWW.out.same y ⟨E1, E2, E3, n1, n2, n3, c1, c2, c3, P, C, T⟩ V0 (HYR.out V0 hB) hV.r)
  dsimp only [cfv] at HS1
  rw [HSA.out] at HS1
  clear hV hB HSA
  go_wp2_with fail
  refine HS1.out.mono ?_
  rintro e V1 ⟨rfl, hb1⟩
  have HV1 := Lib.hid (HV.out.on hb1)
  have HB1 := Lib.hid (HB.out.trans (hb1.mono HB.out.size))
  clear m0 m1 m2 d0 d1 d2 HV HB HS1 hb1
  obtain ⟨m0, m1, m2⟩ := HBO.out V1 HB1.out
  obtain ⟨d0, d1, d2⟩ := HV1.out.s.cells
  have q1 : ((n1 : Int) != (y.n1 : Int)) = false := by rw [HL.out.1]; simp
  have q2 : ((n2 : Int) != (y.n2 : Int)) = false := by rw [HL.out.2.1]; simp
  have q3 : ((n3 : Int) != (y.n3 : Int)) = false := by rw [HL.out.2.2]; simp
  clear HL
  go_wp2_with fail
  refine (HBY.out V1 HB1.out).mono ?_
  rintro e V2 ⟨A7, k7, c7, rfl, hv7, hb2⟩
  have hv7 : OwnV 5 1 V2 V1.heap.size A7 k7 c7 (bs BB) := hv7
  have HV2 := Lib.hid (HV1.out.on hb2)
  have HB2 := Lib.hid (HB1.out.trans (hb2.mono HB1.out.size))
  have HW7 := Lib.hid hv7
  clear m0 m1 m2 d0 d1 d2 q1 q2 q3 HV1 HB1 hb2 hv7
  -- the name
  obtain ⟨gp, eg, hBg, hgl⟩ := HV2.out.s.pp.block hn1
  have eg : E1 = some ⟨gp, 0, none⟩ := eg
  subst eg
  obtain ⟨d0, d1, d2⟩ := HV2.out.s.cells
  have hxo := HV2.out.ok.pt x (List.mem_of_getElem? hx)
  have hxv := HV2.out.pt x (List.mem_of_getElem? hx)
  have hxz := HV2.out.ok.z.2.2.2.1 x (List.mem_of_getElem? hx)
  obtain ⟨⟨nm, bu, pe, sc, st, pa, pn, pc, h0, h1, h2, h3, h4⟩, L⟩ := x
  dsimp only at hxo hxv hxz hxp HDP
  have zf := HV2.out.s.pp.cell pcq_len (i := 0) (k := 0) (v := .string nm) hx (by omega) rfl
  have z0 : V2.cell? ⟨gp, 0, none⟩ = some (.string nm) := zf.1
  have f0 : V2.frozen? ⟨gp, 0, none⟩ = false := zf.2
  clear zf
  obtain ⟨X3, hX3⟩ : ∃ X : Pq, X = (⟨otherN, bu, pe, sc, st, pa, pn, pc, h0, h1, h2, h3, h4⟩, L) := ⟨_, rfl⟩
  have hV3 := HV2.out.part hx (k := 0) (y := X3) (v := .string otherN) (by omega) (by rw [hX3]; rfl) (by rw [hX3]; exact hxv) (by rw [hX3]; exact ⟨hxo.1, by show 5 ≤ _; omega, hxo.2.2.1, hxz⟩)
  have HV3 : Hid (CvS W1.heap.size g6 ⟨some ⟨gp, 0, none⟩, E2, E3, n1, n2, n3, c1, c2, c3, P.set 0 X3, C, T⟩ (V2.setCell ⟨gp, 0, none⟩ (.string otherN))) := Lib.hid hV3
  have HB3 : Hid (Below W1.heap.size W1 (V2.setCell ⟨gp, 0, none⟩ (.string otherN))) := Lib.hid (HB2.out.setCell (p := ⟨gp, 0, none⟩) hBg _)
  have hx3 : (P.set 0 X3)[0]? = some X3 := List.getElem?_set_self (List.getElem?_eq_some_iff.1 hx).1
  have HP3 : Hid (∀ (j : Nat) (b : Pq), (P.set 0 X3)[j]? = some b → j ≠ 0 → ∀ k, obk pa = some k → obk b.1.pa ≠ some k) := Lib.hid fun j b hb hj => HDP.out j b (by rw [List.getElem?_set_ne (Ne.symm hj)] at hb; exact hb) hj
  have HX3 := Lib.hid hX3
  have HLL := Lib.hid hxo.2.2.1
  have HW3 : Hid (OwnV 5 1 (V2.setCell ⟨gp, 0, none⟩ (.string otherN)) V1.heap.size A7 k7 c7 (bs BB)) := Lib.hid (HW7.out.other _ _ (HW7.out.ne' HV2.out.s.pp.own (by decide)))
  clear hxo hV3 hgl hxv hxz hX3 hx HW7
  go_upto_region 7 with fail
  have eo : (⟨#[111, 116, 104, 101, 114]⟩ : ByteArray) = otherN := rfl
  try rw [eo]
  clear eo
  generalize V2.setCell ⟨gp, 0, none⟩ (.string otherN) = V3 at HV3 HB3 HW3 ⊢
  generalize P.set 0 X3 = P3 at HV3 hx3 HP3
  clear d0 d1 d2 z0 f0 HV2 HB2 HDP
  -- a process
  obtain ⟨d0, d1, d2⟩ := HV3.out.s.cells
  have hx3' := hx3
  rw [HX3.out] at hx3'
  have hpv := HV3.out.pt _ (List.mem_of_getElem? hx3')
  obtain ⟨gq, eq, hBq, hql⟩ := hpv.block (by show 0 < pn; omega)
  have eq : pa = some ⟨gq, 0, none⟩ := eq
  subst eq
  obtain ⟨q, hq⟩ : ∃ q, L[0]? = some q := ⟨_, List.getElem?_eq_getElem (by rw [HLL.out]; omega)⟩
  have hob : OwnB 41 2 prc V3 W1.heap.size (some ⟨gq, 0, none⟩) pn pc L := ⟨HLL.out, hpv⟩
  have zf := hob.cell prc_len (i := 0) (k := 1) (v := .int .i64 q.2) hq (by omega) rfl
  have z1 : V3.cell? ⟨gq, 1, none⟩ = some (.int .i64 q.2) := zf.1
  have f1 : V3.frozen? ⟨gq, 1, none⟩ = false := zf.2
  have zg := HV3.out.s.pp.cell pcq_len (i := 0) (k := 5) (v := .slice (some ⟨gq, 0, none⟩) pn pc) hx3' (by omega) rfl
  have z5 : V3.cell? ⟨gp, 5, none⟩ = some (.slice (some ⟨gq, 0, none⟩) pn pc) := zg.1
  clear zf zg
  have hV4 := HV3.out.pset hx3' rfl (fun j b hb hj => HP3.out j b hb hj gq rfl) (k := 1) (q := q) (q' := (q.1, bits .and .i64 a1 127)) (v := .int .i64 (bits .and .i64 a1 127)) (j := 0) hq (by omega) rfl
  obtain ⟨P4, hP4⟩ : ∃ l, l = P3.set 0 ((⟨otherN, bu, pe, sc, st, some ⟨gq, 0, none⟩, pn, pc, h0, h1, h2, h3, h4⟩, L.set 0 (q.1, bits .and .i64 a1 127)) : Pq) := ⟨_, rfl⟩
  have HN4 : Hid (∃ p : Pq, P4[0]? = some p ∧ p.1.name = otherN) := Lib.hid ⟨_, by rw [hP4]; exact List.getElem?_set_self (List.getElem?_eq_some_iff.1 hx3').1, rfl⟩
  have HV4 : Hid (CvS W1.heap.size g6 ⟨some ⟨gp, 0, none⟩, E2, E3, n1, n2, n3, c1, c2, c3, P4, C, T⟩ (V3.setCell ⟨gq, 1, none⟩ (.int .i64 (bits .and .i64 a1 127)))) := Lib.hid (by rw [hP4]; exact hV4)
  have HB4 : Hid (Below W1.heap.size W1 (V3.setCell ⟨gq, 1, none⟩ (.int .i64 (bits .and .i64 a1 127)))) := Lib.hid (HB3.out.setCell (p := ⟨gq, 1, none⟩) hBq _)
  have HW4 : Hid (OwnV 5 1 (V3.setCell ⟨gq, 1, none⟩ (.int .i64 (bits .and .i64 a1 127))) V1.heap.size A7 k7 c7 (bs BB)) := Lib.hid (HW3.out.other _ _ (HW3.out.ne' hpv (by decide)))
  clear hV4 hob hpv hql hx3 hx3' hq hP4 HW3
  go_upto_region 8 with fail
  generalize V3.setCell ⟨gq, 1, none⟩ (.int .i64 (bits .and .i64 a1 127)) = V4 at HV4 HB4 HW4 ⊢
  clear d0 d1 d2 z1 f1 z5 HV3 HB3 HP3 HX3 HLL
  -- a node
  obtain ⟨g3, e3, hB3, _⟩ := HV4.out.s.tb.block hn3
  have e3 : E3 = some ⟨g3, 0, none⟩ := e3
  subst e3
  obtain ⟨d0, d1, d2⟩ := HV4.out.s.cells
  have y3 : V4.cell? ⟨g3, 0, none⟩ = some (.slice t0.A t0.n t0.c) := (HV4.out.s.tb.cell tcn_len (i := 0) (k := 0) (v := .slice t0.A t0.n t0.c) ht (by omega) rfl).1
  have htv := HV4.out.tt t0 (List.mem_of_getElem? ht)
  have hto := HV4.out.ok.tt t0 (List.mem_of_getElem? ht)
  obtain ⟨tA, tn, tc, tl⟩ := t0
  dsimp only at htv hto y3 HTL HDT
  cases htl : tl with
  | nil => exact absurd htl HTL.out
  | cons r tl' =>
  subst htl
  have htn : 0 < tn := by have h := hto.1; rw [List.length_cons] at h; omega
  obtain ⟨g4, e4, hB4, _⟩ := htv.block htn
  have e4 : tA = some ⟨g4, 0, none⟩ := e4
  subst e4
  have u2 : V4.cell? ⟨g4, 2, none⟩ = some (.int .i64 r.n) := World.ownsRow.cellAt htv 2 (by omega)
  have k2 : V4.frozen? ⟨g4, 2, none⟩ = false := World.ownsRow.frozenAt htv 2
  obtain ⟨Z, hZ⟩ : ∃ Z, IntKind.i64.wrap (r.n + 1) = Z := ⟨_, rfl⟩
  have hzi : In64 Z := hZ ▸ wrap_in _
  have hV5 := HV4.out.nset ht rfl (fun j b hb hj => HDT.out j b hb hj g4 rfl) (q := r) (j := 0) rfl Z hzi
  obtain ⟨T5, hT5⟩ : ∃ l, l = T.set 0 { (⟨some ⟨g4, 0, none⟩, tn, tc, r :: tl'⟩ : NdT) with l := (r :: tl').set 0 ⟨r.k, r.p, Z⟩ } := ⟨_, rfl⟩
  have HV5 : Hid (CvS W1.heap.size g6 ⟨some ⟨gp, 0, none⟩, E2, some ⟨g3, 0, none⟩, n1, n2, n3, c1, c2, c3, P4, C, T5⟩ (V4.setCell ⟨g4, 2, none⟩ (.int .i64 Z)).drew) := Lib.hid (by rw [hT5]; exact (hV5.on (Below.refl _ _).drew))
  have HB5 : Hid (Below W1.heap.size W1 (V4.setCell ⟨g4, 2, none⟩ (.int .i64 Z)).drew) := Lib.hid (HB4.out.setCell (p := ⟨g4, 2, none⟩) hB4 _).drew
  have HW5 : Hid (OwnV 5 1 (V4.setCell ⟨g4, 2, none⟩ (.int .i64 Z)).drew V1.heap.size A7 k7 c7 (bs BB)) := Lib.hid ((HW4.out.other _ _ (HW4.out.ne' htv (by decide))).below rfl (Below.refl _ _).drew)
  clear hV5 hto htv hT5 hzi ht HW4
  go_still_tail 14, (by kernel_rfl)
  change wpList _ _ _ _ _ V4.drew
  go_upto_region 9 with fail
  generalize (V4.setCell ⟨g4, 2, none⟩ (.int .i64 Z)).drew = V5 at HV5 HB5 HW5 ⊢
  clear d0 d1 d2 y3 u2 k2 hZ HV4 HB4 HDT HTL
  obtain ⟨d0, d1, d2⟩ := HV5.out.s.cells
  -- the channels
  go_wp2_with fail
  clear d0 d1 d2
  go_loopw [8, 78] (fun _ s wx => ∃ (i : Nat) (C' : List ChV), i ≤ n2 ∧ s = .int .i64 i ∧ CvS W1.heap.size g6 ⟨some ⟨gp, 0, none⟩, E2, some ⟨g3, 0, none⟩, n1, n2, n3, c1, c2, c3, P4, C', T5⟩ wx ∧ Below W1.heap.size W1 wx ∧ OwnV 5 1 wx V1.heap.size A7 k7 c7 (bs BB)) (fun _ s _ => n2 - (intOf s).toNat)
  case atStart => exact ⟨0, C, by omega, rfl, HV5.out, HB5.out, HW5.out⟩
  case round =>
    obtain ⟨i, C6, hi, rfl, hV, hB, hO⟩ := hrel
    have HV := Lib.hid hV
    have HB := Lib.hid hB
    have HO := Lib.hid hO
    clear hV hB hO HV5 HB5 HW5
    by_cases hlt : i < n2
    · obtain ⟨g2, e2, hB2, _⟩ := HV.out.s.ch.block (by show 0 < n2; omega)
      have e2 : E2 = some ⟨g2, 0, none⟩ := e2
      subst e2
      obtain ⟨d0, d1, d2⟩ := HV.out.s.cells
      have hl6 : C6.length = n2 := HV.out.ok.l2
      obtain ⟨x, hx⟩ : ∃ x, C6[i]? = some x := ⟨_, List.getElem?_eq_getElem (by omega)⟩
      have zf := HV.out.s.ch.cell cc_len (i := i) (k := 5) (v := .int .i64 x.late) hx (by omega) rfl
      have z5 : wr.cell? ⟨g2, i * 6 + 5, none⟩ = some (.int .i64 x.late) := zf.1
      have f5 : wr.frozen? ⟨g2, i * 6 + 5, none⟩ = false := zf.2
      have HV6 : Hid (CvS W1.heap.size g6 ⟨some ⟨gp, 0, none⟩, some ⟨g2, 0, none⟩, some ⟨g3, 0, none⟩, n1, n2, n3, c1, c2, c3, P4, C6.set i { x with late := 77 }, T5⟩ (wr.setCell ⟨g2, i * 6 + 5, none⟩ (.int .i64 77))) := Lib.hid (HV.out.cset hx (by omega) (cc_late x 77))
      have HB6 : Hid (Below W1.heap.size W1 (wr.setCell ⟨g2, i * 6 + 5, none⟩ (.int .i64 77))) := Lib.hid (HB.out.setCell (p := ⟨g2, i * 6 + 5, none⟩) hB2 _)
      have HO6 : Hid (OwnV 5 1 (wr.setCell ⟨g2, i * 6 + 5, none⟩ (.int .i64 77)) V1.heap.size A7 k7 c7 (bs BB)) := Lib.hid (HO.out.other _ _ (HO.out.ne' HV.out.s.ch.own (by decide)))
      clear zf hl6 hx HV HB HO
      go_wp2_with fail
      go_roundw
      case rel => exact ⟨i + 1, _, by omega, by go_num, HV6.out, HB6.out, HO6.out⟩
      case measure => simp [intOf]; omega
    · have hlt' : ¬ (i : Int) < (n2 : Int) := by omega
      have HSM : Hid (∀ V, Below wr.heap.size wr V → Calls Tryz.prog 6 #[.agg #[.slice y.A1 y.n1 y.c1, .slice y.A2 y.n2 y.c2, .slice y.A3 y.n3 y.c3], .agg #[.slice (some ⟨gp, 0, none⟩) n1 c1, .slice E2 n2 c2, .slice (some ⟨g3, 0, none⟩) n3 c3]] V (Ans (.bool false) V)) := Lib.hid fun V hv => by
        have h := HWW.out.same y ⟨some ⟨gp, 0, none⟩, E2, some ⟨g3, 0, none⟩, n1, n2, n3, c1, c2, c3, P4, C6, T5⟩ V (HYR.out V (HB.out.trans (hv.mono HB.out.size))) (HV.out.on hv).r
        obtain ⟨p, hp, hpn⟩ := HN4.out
        rw [HNE.out P4 C6 T5 p hp hpn] at h
        exact h
      obtain ⟨m0, m1, m2⟩ := HBO.out wr HB.out
      obtain ⟨d0, d1, d2⟩ := HV.out.s.cells
      clear HV HN4 HNE HYR HWW
      go_upto_region 14 with fail
      refine Rgs.region (by kernel_rfl) (by kernel_rfl) (fun (opn : Nat) (vl : Value) (wv : World) => match opn with | 0 => vl = .agg #[.slice y.A1 y.n1 y.c1, .slice y.A2 y.n2 y.c2, .slice y.A3 y.n3 y.c3] | 1 => BtS BB vl wv | 2 => vl = .string (str BB) | 3 => vl = .slice A7 k7 c7 | 4 => vl = .string (str BB) | 5 => vl = .bool true | 6 => vl = .bool true | 7 => vl = .agg #[.slice y.A1 y.n1 y.c1, .slice y.A2 y.n2 y.c2, .slice y.A3 y.n3 y.c3] | 8 => vl = .agg #[.slice (some ⟨gp, 0, none⟩) n1 c1, .slice E2 n2 c2, .slice (some ⟨g3, 0, none⟩) n3 c3] | 9 => vl = .bool false | 10 => vl = .bool true | 11 => vl = .bool true | 12 => vl = .bool true | 13 => vl = .bool true | 14 => vl = .bool true | 15 => vl = .bool true | _ => True) (fun _ _ w' => Below wr.heap.size wr w') (Below.refl _ _).drew (Rgs.steps_of ?_) ?_
      · refine ⟨?_, ?_, ?_, ?_, ?_, ?_, ?_, ?_, ?_, ?_, ?_, ?_, ?_, ?_, ?_, ?_, trivial⟩
        · intro a w1 live S E D C h0 hk hW
          have e5 : a.eval (.tmp 5) = .pointer (some ⟨g5, 0, none⟩) := E 5 rfl
          have hc0 := (hW.cell (p := ⟨g5, 0, none⟩) (World.block_lt_of_cell? _ _ m0)).trans m0
          have hc1 := (hW.cell (p := ⟨g5, 1, none⟩) (World.block_lt_of_cell? _ _ m1)).trans m1
          have hc2 := (hW.cell (p := ⟨g5, 2, none⟩) (World.block_lt_of_cell? _ _ m2)).trans m2
          exact Rgs.val rfl (Reg.wanted_free rfl) (.agg #[.slice y.A1 y.n1 y.c1, .slice y.A2 y.n2 y.c2, .slice y.A3 y.n3 y.c3]) (by have c := Reg.consts a; generalize a.eval = ρ at *; simp [execOp, go_sem, c.1, c.2, e5, hc0, hc1, hc2]) rfl hW
        · intro a w1 live S E D C h0 hk hW
          have d0 : a.eval (.tmp 87) = .agg #[.slice y.A1 y.n1 y.c1, .slice y.A2 y.n2 y.c2, .slice y.A3 y.n3 y.c3] := D 0 rfl _ _ rfl rfl
          have d0 : a.eval (.tmp 87) = .agg #[.slice y.A1 y.n1 y.c1, .slice y.A2 y.n2 y.c2, .slice y.A3 y.n3 y.c3] := D 0 rfl _ _ rfl rfl
          refine Rgs.call rfl (Reg.wanted_free rfl) 7 #[.agg #[.slice y.A1 y.n1 y.c1, .slice y.A2 y.n2 y.c2, .slice y.A3 y.n3 y.c3]] (by have c := Reg.consts a; generalize a.eval = ρ at *; simp [execOp, go_sem, c.1, c.2, d0]) ?_
          refine (HBY.out w1 (HB.out.trans (hW.mono HB.out.size))).mono ?_
          rintro e w5 ⟨A5, n5, c5, rfl, ho5, hb5⟩
          obtain rfl := ho5.len
          exact ⟨_, rfl, ⟨A5, c5, rfl, ho5.rd⟩, hW.trans (hb5.mono hW.size), fun jq vq _ hq => by
              revert hq
              match jq with
              | 1 => exact fun h => h.on hb5
              | 0 | 2 | 3 | 4 | 5 | 6 | 7 | 8 | 9 | 10 | 11 | 12 | 13 | 14 | 15 | _ + 16 => exact fun h => h⟩
        · intro a w1 live S E D C h0 hk hW
          obtain ⟨A5, c5, d1, hr5⟩ := D 1 rfl _ _ rfl rfl
          have d1 : a.eval (.tmp 88) = .slice A5 BB.length c5 := d1
          have hcv := run_conv w1 _ A5 BB.length c5 BB hr5
          exact Rgs.val rfl (Reg.wanted_free rfl) (.string (str BB)) (by have c := Reg.consts a; generalize a.eval = ρ at *; simp [execOp, go_sem, c.1, c.2, d1, hcv]) rfl hW
        · intro a w1 live S E D C h0 hk hW
          have e7 : a.eval (.tmp 7) = .slice A7 k7 c7 := E 7 rfl
          exact Rgs.val rfl (Reg.wanted_free rfl) (.slice A7 k7 c7) (by have c := Reg.consts a; generalize a.eval = ρ at *; simp [execOp, go_sem, c.1, c.2, e7]) rfl hW
        · intro a w1 live S E D C h0 hk hW
          have d3 : a.eval (.tmp 90) = .slice A7 k7 c7 := D 3 rfl _ _ rfl rfl
          have d3 : a.eval (.tmp 90) = .slice A7 k7 c7 := D 3 rfl _ _ rfl rfl
          have hr7 : Rd w1 w1.heap.size A7 k7 BB := (show Own w1 V1.heap.size A7 k7 c7 BB from HO.out.below rfl hW).rd
          have hcv := run_conv w1 _ A7 k7 c7 BB hr7
          exact Rgs.val rfl (Reg.wanted_free rfl) (.string (str BB)) (by have c := Reg.consts a; generalize a.eval = ρ at *; simp [execOp, go_sem, c.1, c.2, d3, hcv]) rfl hW
        · intro a w1 live S E D C h0 hk hW
          have d2 : a.eval (.tmp 89) = .string (str BB) := D 2 rfl _ _ rfl rfl
          have d4 : a.eval (.tmp 91) = .string (str BB) := D 4 rfl _ _ rfl rfl
          exact Rgs.val rfl (Reg.wanted_free rfl) (.bool true) (by have c := Reg.consts a; generalize a.eval = ρ at *; simp [execOp, go_sem, c.1, c.2, d2, d4]) rfl hW
        · intro a w1 live S E D C h0 hk hW
          have d5 : a.eval (.tmp 92) = .bool true := D 5 rfl _ _ rfl rfl
          exact Rgs.val rfl (Reg.wanted_free rfl) (.bool true) (by have c := Reg.consts a; generalize a.eval = ρ at *; simp [execOp, go_sem, c.1, c.2, d5]) rfl hW
        · intro a w1 live S E D C h0 hk hW
          have dg : a.eval (.tmp 93) = .bool true := D 6 rfl _ _ rfl rfl
          have e5 : a.eval (.tmp 5) = .pointer (some ⟨g5, 0, none⟩) := E 5 rfl
          have hc0 := (hW.cell (p := ⟨g5, 0, none⟩) (World.block_lt_of_cell? _ _ m0)).trans m0
          have hc1 := (hW.cell (p := ⟨g5, 1, none⟩) (World.block_lt_of_cell? _ _ m1)).trans m1
          have hc2 := (hW.cell (p := ⟨g5, 2, none⟩) (World.block_lt_of_cell? _ _ m2)).trans m2
          exact Rgs.val rfl (Reg.wanted_if rfl rfl dg rfl) (.agg #[.slice y.A1 y.n1 y.c1, .slice y.A2 y.n2 y.c2, .slice y.A3 y.n3 y.c3]) (by have c := Reg.consts a; generalize a.eval = ρ at *; simp [execOp, go_sem, c.1, c.2, e5, hc0, hc1, hc2]) rfl hW
        · intro a w1 live S E D C h0 hk hW
          have dg : a.eval (.tmp 93) = .bool true := D 6 rfl _ _ rfl rfl
          have e6 : a.eval (.tmp 6) = .pointer (some ⟨g6, 0, none⟩) := E 6 rfl
          have hc0 := (hW.cell (p := ⟨g6, 0, none⟩) (World.block_lt_of_cell? _ _ d0)).trans d0
          have hc1 := (hW.cell (p := ⟨g6, 1, none⟩) (World.block_lt_of_cell? _ _ d1)).trans d1
          have hc2 := (hW.cell (p := ⟨g6, 2, none⟩) (World.block_lt_of_cell? _ _ d2)).trans d2
          exact Rgs.val rfl (Reg.wanted_if rfl rfl dg rfl) (.agg #[.slice (some ⟨gp, 0, none⟩) n1 c1, .slice E2 n2 c2, .slice (some ⟨g3, 0, none⟩) n3 c3]) (by have c := Reg.consts a; generalize a.eval = ρ at *; simp [execOp, go_sem, c.1, c.2, e6, hc0, hc1, hc2]) rfl hW
        · intro a w1 live S E D C h0 hk hW
          have dg : a.eval (.tmp 93) = .bool true := D 6 rfl _ _ rfl rfl
          have d7 : a.eval (.tmp 94) = .agg #[.slice y.A1 y.n1 y.c1, .slice y.A2 y.n2 y.c2, .slice y.A3 y.n3 y.c3] := D 7 rfl _ _ rfl rfl
          have d8 : a.eval (.tmp 95) = .agg #[.slice (some ⟨gp, 0, none⟩) n1 c1, .slice E2 n2 c2, .slice (some ⟨g3, 0, none⟩) n3 c3] := D 8 rfl _ _ rfl rfl
          have dg : a.eval (.tmp 93) = .bool true := D 6 rfl _ _ rfl rfl
          have d7 : a.eval (.tmp 94) = .agg #[.slice y.A1 y.n1 y.c1, .slice y.A2 y.n2 y.c2, .slice y.A3 y.n3 y.c3] := D 7 rfl _ _ rfl rfl
          have d8 : a.eval (.tmp 95) = .agg #[.slice (some ⟨gp, 0, none⟩) n1 c1, .slice E2 n2 c2, .slice (some ⟨g3, 0, none⟩) n3 c3] := D 8 rfl _ _ rfl rfl
          refine Rgs.call rfl (Reg.wanted_if rfl rfl dg rfl) 6 #[.agg #[.slice y.A1 y.n1 y.c1, .slice y.A2 y.n2 y.c2, .slice y.A3 y.n3 y.c3], .agg #[.slice (some ⟨gp, 0, none⟩) n1 c1, .slice E2 n2 c2, .slice (some ⟨g3, 0, none⟩) n3 c3]] (by have c := Reg.consts a; generalize a.eval = ρ at *; simp [execOp, go_sem, c.1, c.2, d7, d8]) ?_
          refine (HSM.out w1 hW).mono ?_
          rintro e w5 ⟨rfl, hb5⟩
          exact ⟨_, rfl, rfl, hW.trans (hb5.mono hW.size), fun jq vq _ hq => by
              revert hq
              match jq with
              | 1 => exact fun h => h.on hb5
              | 0 | 2 | 3 | 4 | 5 | 6 | 7 | 8 | 9 | 10 | 11 | 12 | 13 | 14 | 15 | _ + 16 => exact fun h => h⟩
        · intro a w1 live S E D C h0 hk hW
          have dg : a.eval (.tmp 93) = .bool true := D 6 rfl _ _ rfl rfl
          have d9 : a.eval (.tmp 96) = .bool false := D 9 rfl _ _ rfl rfl
          exact Rgs.val rfl (Reg.wanted_if rfl rfl dg rfl) (.bool true) (by have c := Reg.consts a; generalize a.eval = ρ at *; simp [execOp, go_sem, c.1, c.2, d9]) rfl hW
        · intro a w1 live S E D C h0 hk hW
          have d6 : a.eval (.tmp 93) = .bool true := D 6 rfl _ _ rfl rfl
          have d10 : a.eval (.tmp 97) = .bool true := D 10 rfl _ _ rfl rfl
          exact Rgs.val rfl (Reg.wanted_free rfl) (.bool true) (by have c := Reg.consts a; generalize a.eval = ρ at *; simp [execOp, go_sem, c.1, c.2, d6, d10]) rfl hW
        · intro a w1 live S E D C h0 hk hW
          have d11 : a.eval (.tmp 98) = .bool true := D 11 rfl _ _ rfl rfl
          exact Rgs.val rfl (Reg.wanted_free rfl) (.bool true) (by have c := Reg.consts a; generalize a.eval = ρ at *; simp [execOp, go_sem, c.1, c.2, d11]) rfl hW
        · intro a w1 live S E D C h0 hk hW
          have dg : a.eval (.tmp 99) = .bool true := D 12 rfl _ _ rfl rfl
          have dg : a.eval (.tmp 99) = .bool true := D 12 rfl _ _ rfl rfl
          refine Rgs.call rfl (Reg.wanted_if rfl rfl dg rfl) 8 #[] (by have c := Reg.consts a; generalize a.eval = ρ at *; simp [execOp, go_sem, c.1, c.2, go_sem]) ?_
          refine (HKN.out w1).mono ?_
          rintro e w5 ⟨rfl, hb5⟩
          exact ⟨_, rfl, rfl, hW.trans (hb5.mono hW.size), fun jq vq _ hq => by
              revert hq
              match jq with
              | 1 => exact fun h => h.on hb5
              | 0 | 2 | 3 | 4 | 5 | 6 | 7 | 8 | 9 | 10 | 11 | 12 | 13 | 14 | 15 | _ + 16 => exact fun h => h⟩
        · intro a w1 live S E D C h0 hk hW
          have d12 : a.eval (.tmp 99) = .bool true := D 12 rfl _ _ rfl rfl
          have d13 : a.eval (.tmp 100) = .bool true := D 13 rfl _ _ rfl rfl
          exact Rgs.val rfl (Reg.wanted_free rfl) (.bool true) (by have c := Reg.consts a; generalize a.eval = ρ at *; simp [execOp, go_sem, c.1, c.2, d12, d13]) rfl hW
        · intro a w1 live S E D C h0 hk hW
          have d14 : a.eval (.tmp 101) = .bool true := D 14 rfl _ _ rfl rfl
          exact Rgs.val rfl (Reg.wanted_free rfl) (.bool true) (by have c := Reg.consts a; generalize a.eval = ρ at *; simp [execOp, go_sem, c.1, c.2, d14]) rfl hW
      · intro a w4 live hs hd E D Hl hW
        have e4 : a.eval (.tmp 4) = .bool true := by
          obtain ⟨v, hv, he⟩ := D 15 _ rfl
          exact (he 4 rfl).trans hv
        rw [Rgs.act_ws a _ _ hs hd E [87, 88, 89, 90, 91, 92, 93, 94, 95, 96, 97, 98, 99, 100, 101, 4] (by kernel_rfl)]
        simp only [List.foldl, List.setIfInBounds_toArray, List.set_cons_succ, List.set_cons_zero, e4]
        have HB9 := Lib.hid (HWB.out w4 (HB.out.trans (Below.mono hW HB.out.size)))
        clear E D Hl hW e4
        generalize a.eval = ρ
        clear a hs hd m0 m1 m2 d0 d1 d2
        go_wp2_with fail
        go_ret
        exact Ans.mk rfl HB9.out
end Go.Proofs.YtebcfiifaclniaaGreat
