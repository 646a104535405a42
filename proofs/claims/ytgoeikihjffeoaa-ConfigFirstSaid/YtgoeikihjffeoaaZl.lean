/- ConfigFirst: what is wrong first is told, and where: the walk. -/
import Derived.Test.YtgoeikihjffeoaaZj
import Derived.Test.YtgoeikihjffeoaaZk
import Derived.Test.YtgoeikihjffeoaaYq
import Derived.Test.YtgoeikihjffeoaaYj
namespace Go.Proofs.Ytgoeikihjffeoaa
open Go.RowKit Tab
set_option linter.unusedSimpArgs false
set_option linter.unusedVariables false

def badC : ChV := ⟨-1, 0, false, 0, 0, 0⟩
set_option maxRecDepth 100000 in
set_option maxHeartbeats 4000000 in
theorem first12_walk (hW : ConfigW) (A : Option Addr) (n cap : Nat) (f : Nat → Int) (a1 : Int) (w : World) (hA : RdC w w.heap.size A n fun j => .int .i64 (f j)) (hn : n ≤ 140737488351232) :
    Calls Try.prog 3 #[.slice A n cap, .int .i64 a1] w (Ans (.bool true) w) := by
  have HWW := Lib.hid hW
  have HKN := Lib.hid fun V => known12_any hW V
  have HCF := Lib.hid (tape_right A n cap f w hA hn)
  clear hW hA hn
  go_enter Try.func3, Try.ntmps3
  go_wp2_with fail
  refine HCF.out.mono ?_
  rintro e w1 ⟨y, rfl, hyR, hyS, hyz, ⟨hy2, hy3⟩, hb1⟩
  have HCP := Lib.hid (HWW.out.copy y w1 hyR)
  dsimp only [cfv] at HCP
  go_wp2_with fail
  refine HCP.out.mono ?_
  rintro e w2 ⟨z, rfl, hzR, hzS, hzO, hb2⟩
  have hri : RiX z := RiX.of (by rw [whF_same hzS hzR.lens hyR.lens]; exact hyz)
  have hCC : z.C = y.C := hzS.1.2.2
  have hz2 : z.n2 ≤ 3 := by
    have h1 := hzR.ch.len
    have h2 := hyR.ch.len
    rw [hCC] at h1
    omega
  have HV := Lib.hid (CvS.new hzO hzR hb2.size)
  have HB2 := Lib.hid ((hb1.trans (hb2.mono hb1.size)).trans ((bl1 w2 (.cells #[.slice z.A1 z.n1 z.c1, .slice z.A2 z.n2 z.c2, .slice z.A3 z.n3 z.c3] 27)).mono (Nat.le_trans hb1.size hb2.size)))
  have hBB := hb1.size
  clear hyR hyS hyz hy2 hy3 hb1 hb2 hzR hzS hzO hCC HCP HCF
  obtain ⟨E1, E2, E3, n1, n2, n3, c1, c2, c3, P, C, T⟩ := z
  dsimp only [cfv] at hz2 HV HB2 ⊢
  have RSZ := hri.sz
  have RPT := Lib.hid hri.pt
  have RCH := Lib.hid hri.ch
  clear hri
  dsimp only at RPT RCH RSZ
  have hok := HV.out.ok
  have l1 : P.length = n1 := hok.l1
  have l2 : C.length = n2 := hok.l2
  have l3 : T.length = n3 := hok.l3
  have r1 : 1 ≤ n1 := by have := RSZ.1; omega
  have r2 : n1 ≤ 6 := by have := RSZ.2.1; omega
  have r3 : 1 ≤ n3 := by have := RSZ.2.2.2.1; omega
  have r4 : n3 ≤ 3 := by have := RSZ.2.2.2.2; omega
  have L1 := Lib.hid l1
  have L2 := Lib.hid l2
  have L3 := Lib.hid l3
  clear hok RSZ l1 l2 l3
  go_upto_region 2 with fail
  generalize w2.alloc (.cells #[.slice E1 n1 c1, .slice E2 n2 c2, .slice E3 n3 c3] 27) = W at HV HB2 ⊢
  generalize w2.heap.size = gc at HV ⊢
  generalize w1.heap.size = B at HV hBB
  obtain ⟨m0, m1, m2⟩ := HV.out.s.cells
  have q1 : ((n1 : Int) == 0) = false := by simp; omega
  have q3 : ((n3 : Int) == 0) = false := by simp; omega
  go_wp2_with fail
  clear q1 q3
  refine (within_at a1 ((n1 : Int) - 1) (n1 - 1) _ (by omega) (by omega)).mono ?_
  rintro e w3 ⟨k, hk, rfl, rfl⟩
  have hk1 : k < n1 := by omega
  obtain ⟨t0, ht0⟩ : ∃ t0, T[0]? = some t0 := ⟨_, List.getElem?_eq_getElem (by rw [L3.out]; omega)⟩
  obtain ⟨g3, e3, hBg3, hg3⟩ := HV.out.s.tb.block (by show 0 < n3; omega)
  have e3 : E3 = some ⟨g3, 0, none⟩ := e3
  subst e3
  have z3 : W.cell? ⟨g3, 0, none⟩ = some (.slice t0.A t0.n t0.c) := (HV.out.s.tb.cell tcn_len (i := 0) (k := 0) ht0 (by omega) rfl).1
  have fz3 : W.frozen? ⟨g3, 0, none⟩ = false := (HV.out.s.tb.cell tcn_len (i := 0) (k := 0) ht0 (by omega) rfl).2
  have HV5 := Lib.hid (HV.out.tab ht0 ⟨none, 0, 0, []⟩ (OwnV.nil _ _ _ _) rfl (fun z hz => by cases hz) (by show 0 * 24 ≤ _; omega))
  have hwB : w.heap.size ≤ B := hBB
  have HB5 : Hid (Below w.heap.size w (W.setCell ⟨g3, 0, none⟩ (.slice none 0 0))) := Lib.hid (HB2.out.setCell (p := ⟨g3, 0, none⟩) (by show w.heap.size ≤ g3; omega) _)
  go_upto_region 6 with fail
  try dsimp only at HV5
  generalize W.setCell ⟨g3, 0, none⟩ (.slice none 0 0) = W5 at HV5 HB5 ⊢
  clear z3 fz3 m0 m1 m2 HV HB2 hg3
  -- the first table is none
  have F1 : Hid (whF ⟨E1, E2, some ⟨g3, 0, none⟩, n1, n2, n3, c1, c2, c3, P, C, T.set 0 ⟨none, 0, 0, []⟩⟩ = (12, 0)) := Lib.hid (by
    have ht : (T.set 0 (⟨none, 0, 0, []⟩ : NdT))[0]? = some ⟨none, 0, 0, []⟩ := List.getElem?_set_self (by rw [L3.out]; omega)
    have e : tbE P C (T.set 0 ⟨none, 0, 0, []⟩) 0 = 12 := (tbE_at ht).trans (tbW_nil P C)
    have h := whereF_tab (P := P) (C := C) (T := T.set 0 ⟨none, 0, 0, []⟩) (by unfold sizesB; rw [List.length_set, L1.out, L2.out, L3.out]; omega) RPT.out RCH.out (i := 0) (by rw [List.length_set, L3.out]; omega) (fun j hj => by omega) (by rw [e]; decide)
    rw [e] at h
    exact h)
  have HW1 := Lib.hid (HWW.out.where_ _ W5 HV5.out.r)
  rw [F1.out] at HW1
  dsimp only [cfv] at HW1
  obtain ⟨m0, m1, m2⟩ := HV5.out.s.cells
  go_wp2_with fail
  refine HW1.out.mono ?_
  rintro e w6 ⟨rfl, hb6⟩
  have HV6 := Lib.hid (HV5.out.on hb6)
  have HB6 := Lib.hid (HB5.out.trans (hb6.mono HB5.out.size))
  clear hb6 m0 m1 m2 HV5 HB5 HW1 F1
  obtain ⟨m0, m1, m2⟩ := HV6.out.s.cells
  -- a channel more
  have hbl := bl1 w6 (.cells #[.int .i64 (-1), .int .i64 0, .bool false, .int .i64 0, .int .u32 0, .int .i64 0] 40)
  have hV7 := HV6.out.on hbl
  have hown := hV7.s.ch.own
  have hr2 := rdV_new w6 #[.int .i64 (-1), .int .i64 0, .bool false, .int .i64 0, .int .u32 0, .int .i64 0] 40 ([badC].flatMap cc) rfl
  have hsz : B ≤ (w6.alloc (.cells #[.int .i64 (-1), .int .i64 0, .bool false, .int .i64 0, .int .u32 0, .int .i64 0] 40)).heap.size := Nat.le_trans (Nat.le_of_lt (Nat.lt_of_le_of_lt hBg3 (hV7.s.tb.own.obk_ge (b := g3) rfl).2)) (Nat.le_refl _)
  have HST : Hid (∀ A4 w4, Grew E2 A4 (w6.alloc (.cells #[.int .i64 (-1), .int .i64 0, .bool false, .int .i64 0, .int .u32 0, .int .i64 0] 40)) w4 → w4.cell? ⟨gc, 1, none⟩ = some (.slice E2 n2 c2) ∧ w4.frozen? ⟨gc, 1, none⟩ = false) := Lib.hid fun A4 w4 hg => by
    have h := hV7.s.cf.grew hV7.s.ch.own (by decide) hg
    exact ⟨World.ownsRow.cellAt h 1 (by omega), World.ownsRow.frozenAt h 1⟩
  have HFI : Hid (∀ A4 c4 w4, OwnV 40 6 w4 B A4 (n2 + 1) c4 ((C ++ [badC]).flatMap cc) → Below B (w6.alloc (.cells #[.int .i64 (-1), .int .i64 0, .bool false, .int .i64 0, .int .u32 0, .int .i64 0] 40)) w4 → Grew E2 A4 (w6.alloc (.cells #[.int .i64 (-1), .int .i64 0, .bool false, .int .i64 0, .int .u32 0, .int .i64 0] 40)) w4 →
      CvS B gc ⟨E1, A4, some ⟨g3, 0, none⟩, n1, n2 + 1, n3, c1, c4, c3, P, C ++ [badC], T.set 0 ⟨none, 0, 0, []⟩⟩ (w4.setCell ⟨gc, 1, none⟩ (.slice A4 (n2 + 1 : Nat) c4)) ∧ Below w.heap.size w (w4.setCell ⟨gc, 1, none⟩ (.slice A4 (n2 + 1 : Nat) c4))) := Lib.hid fun A4 c4 w4 ho hb hg => by
    have hgc : B ≤ gc := (hV7.s.cf.obk_ge (b := gc) rfl).1
    exact ⟨hV7.chan hg ho (by omega), ((HB6.out.trans (hbl.mono HB6.out.size)).trans (hb.mono (by omega))).setCell (p := ⟨gc, 1, none⟩) (by show w.heap.size ≤ gc; omega) _⟩
  clear hV7 hbl
  go_upto_region 8 with (at_builtin; go_loud (refine wpList_appX elCh rfl (.tmp 45) (.tmp 47) rfl rfl B E2 n2 c2 _ rfl hown _ 1 1 _ _ rfl hr2 rfl Nat.one_pos (cc_one _) (by omega) (by unfold maxLen; omega) hsz (n2 + 1) rfl ((C ++ [badC]).flatMap cc) (by rw [List.flatMap_append]) ?_; intro A4 c4 w4 hw4 hb4 hg4; obtain ⟨s0, s1⟩ := HST.out A4 w4 hg4))
  obtain ⟨hV8, hB8⟩ := HFI.out A4 c4 w4 hw4 hb4 hg4
  clear s0 s1 hw4 hb4 hg4 HST HFI hown hr2 hsz HV6 HB6 m0 m1 m2
  generalize w4.setCell ⟨gc, 1, none⟩ (.slice A4 (n2 + 1 : Nat) c4) = W8 at hV8 hB8 ⊢
  have HV8 := Lib.hid hV8
  have HB8 := Lib.hid hB8
  clear hV8 hB8
  have F2 : Hid (whF ⟨E1, A4, some ⟨g3, 0, none⟩, n1, n2 + 1, n3, c1, c4, c3, P, C ++ [badC], T.set 0 ⟨none, 0, 0, []⟩⟩ = (17, (n2 : Int))) := Lib.hid (by
    have e : chE (C ++ [badC]) P.length C.length = 17 := chE_last rfl
    have h := whereF_chan (P := P) (C := C ++ [badC]) (T := T.set 0 ⟨none, 0, 0, []⟩) (by unfold sizesB; simp only [List.length_set, List.length_append, List.length_cons, List.length_nil, L1.out, L2.out, L3.out]; omega) RPT.out (i := C.length) (by rw [List.length_append]; show C.length < C.length + 1; omega) (fun j hj => by rw [chE_more hj]; exact RCH.out j hj) (by rw [e]; decide)
    rw [e, L2.out] at h
    exact h)
  have HW2 := Lib.hid (HWW.out.where_ _ W8 HV8.out.r)
  rw [F2.out] at HW2
  dsimp only [cfv] at HW2
  obtain ⟨m0, m1, m2⟩ := HV8.out.s.cells
  go_wp2_with fail
  refine HW2.out.mono ?_
  rintro e w9 ⟨rfl, hb9⟩
  have HV9 := Lib.hid (HV8.out.on hb9)
  have HB9 := Lib.hid (HB8.out.trans (hb9.mono HB8.out.size))
  clear hb9 m0 m1 m2 HV8 HB8 HW2 F2
  -- a partition without a process
  obtain ⟨x, hx⟩ : ∃ x, P[k]? = some x := ⟨_, List.getElem?_eq_getElem (by rw [L1.out]; omega)⟩
  obtain ⟨g1, e1, hBg1, hg1⟩ := HV9.out.s.pp.block (by show 0 < n1; omega)
  have e1 : E1 = some ⟨g1, 0, none⟩ := e1
  subst e1
  obtain ⟨m0, m1, m2⟩ := HV9.out.s.cells
  obtain ⟨z5, f5⟩ := HV9.out.s.pp.cell pcq_len (i := k) (k := 5) (v := .slice x.1.pa x.1.pn x.1.pc) hx (by omega) rfl
  have hxo := HV9.out.ok.pt x (List.mem_of_getElem? hx)
  have HV10 := Lib.hid (HV9.out.part hx (k := 5) (y := ({ x.1 with pa := none, pn := 0, pc := 0 }, [])) (v := .slice none 0 0) (by omega) rfl (OwnV.nil _ _ _ _) ⟨hxo.1, hxo.2.1, rfl, by show 0 * 16 ≤ _; omega⟩)
  have HB10 : Hid (Below w.heap.size w (w9.setCell ⟨g1, k * 11 + 5, none⟩ (.slice none 0 0))) := Lib.hid (HB9.out.setCell (p := ⟨g1, k * 11 + 5, none⟩) (by show w.heap.size ≤ g1; omega) _)
  have hx0 := RPT.out k (by rw [L1.out]; omega)
  have F3 : Hid (whF ⟨some ⟨g1, 0, none⟩, A4, some ⟨g3, 0, none⟩, n1, n2 + 1, n3, c1, c4, c3, P.set k ({ x.1 with pa := none, pn := 0, pc := 0 }, []), C ++ [badC], T.set 0 ⟨none, 0, 0, []⟩⟩ = (16, (k : Int))) := Lib.hid (by
    have e : ptE (P.set k ({ x.1 with pa := none, pn := 0, pc := 0 }, [])) k = 16 := ptE_set_procs hx hx0 rfl (partF_few (by show ¬ (1 ≤ 0 ∧ 0 ≤ 3); omega))
    have h := whereF_part (P := P.set k ({ x.1 with pa := none, pn := 0, pc := 0 }, [])) (C := C ++ [badC]) (T := T.set 0 ⟨none, 0, 0, []⟩) (by unfold sizesB; simp only [List.length_set, List.length_append, List.length_cons, List.length_nil, L1.out, L2.out, L3.out]; omega) (i := k) (by rw [List.length_set, L1.out]; omega) (fun j hj => by rw [ptE_set_low hj]; exact RPT.out j (by rw [L1.out]; omega)) (by rw [e]; decide)
    rw [e] at h
    exact h)
  have hx1 : (P.set k (({ x.1 with pa := none, pn := 0, pc := 0 }, []) : Pq))[k]? = some ({ x.1 with pa := none, pn := 0, pc := 0 }, []) := List.getElem?_set_self (by rw [L1.out]; omega)
  clear hxo hx0
  go_upto_region 10 with fail
  try dsimp only at HV10
  generalize w9.setCell ⟨g1, k * 11 + 5, none⟩ (.slice none 0 0) = W10 at HV10 HB10 ⊢
  clear m0 m1 m2 z5 f5 HV9 HB9 hg1
  have HW3 := Lib.hid (HWW.out.where_ _ W10 HV10.out.r)
  rw [F3.out] at HW3
  dsimp only [cfv] at HW3
  obtain ⟨m0, m1, m2⟩ := HV10.out.s.cells
  go_wp2_with fail
  refine HW3.out.mono ?_
  rintro e w11 ⟨rfl, hb11⟩
  have HV11 := Lib.hid (HV10.out.on hb11)
  have HB11 := Lib.hid (HB10.out.trans (hb11.mono HB10.out.size))
  clear hb11 m0 m1 m2 HV10 HB10 HW3 F3
  -- nor a name
  obtain ⟨m0, m1, m2⟩ := HV11.out.s.cells
  obtain ⟨z0, f0⟩ := HV11.out.s.pp.cell pcq_len (i := k) (k := 0) (v := .string x.1.name) hx1 (by omega) rfl
  have hxo := HV11.out.ok.pt _ (List.mem_of_getElem? hx1)
  have hV12 := HV11.out.part hx1 (k := 0) (y := ({ x.1 with name := ⟨#[]⟩, pa := none, pn := 0, pc := 0 }, [])) (v := .string ⟨#[]⟩) (by omega) rfl (OwnV.nil _ _ _ _) ⟨hxo.1, by show 0 ≤ _; omega, rfl, by show 0 * 16 ≤ _; omega⟩
  have z0 : w11.cell? ⟨g1, k * 11, none⟩ = some (.string x.1.name) := z0
  have f0 : w11.frozen? ⟨g1, k * 11, none⟩ = false := f0
  have HV12 : Hid (CvS B gc ⟨some ⟨g1, 0, none⟩, A4, some ⟨g3, 0, none⟩, n1, n2 + 1, n3, c1, c4, c3, (P.set k ({ x.1 with pa := none, pn := 0, pc := 0 }, [])).set k ({ x.1 with name := ⟨#[]⟩, pa := none, pn := 0, pc := 0 }, []), C ++ [badC], T.set 0 ⟨none, 0, 0, []⟩⟩ (w11.setCell ⟨g1, k * 11, none⟩ (.string ⟨#[]⟩))) := Lib.hid hV12
  have HB12 : Hid (Below w.heap.size w (w11.setCell ⟨g1, k * 11, none⟩ (.string ⟨#[]⟩))) := Lib.hid (HB11.out.setCell (p := ⟨g1, k * 11, none⟩) (by show w.heap.size ≤ g1; omega) _)
  have F4 : Hid (whF ⟨some ⟨g1, 0, none⟩, A4, some ⟨g3, 0, none⟩, n1, n2 + 1, n3, c1, c4, c3, (P.set k ({ x.1 with pa := none, pn := 0, pc := 0 }, [])).set k ({ x.1 with name := ⟨#[]⟩, pa := none, pn := 0, pc := 0 }, []), C ++ [badC], T.set 0 ⟨none, 0, 0, []⟩⟩ = (15, (k : Int))) := Lib.hid (by
    have e := ptE_set_name hx1 (y := ({ x.1 with name := ⟨#[]⟩, pa := none, pn := 0, pc := 0 }, [])) rfl
    have h := whereF_part (P := (P.set k ({ x.1 with pa := none, pn := 0, pc := 0 }, [])).set k ({ x.1 with name := ⟨#[]⟩, pa := none, pn := 0, pc := 0 }, [])) (C := C ++ [badC]) (T := T.set 0 ⟨none, 0, 0, []⟩) (by unfold sizesB; simp only [List.length_set, List.length_append, List.length_cons, List.length_nil, L1.out, L2.out, L3.out]; omega) (i := k) (by rw [List.length_set, List.length_set, L1.out]; omega) (fun j hj => by rw [ptE_set_low hj, ptE_set_low hj]; exact RPT.out j (by rw [L1.out]; omega)) (by rw [e]; decide)
    rw [e] at h
    exact h)
  clear hxo hV12
  go_upto_region 12 with fail
  try dsimp only at HV12
  generalize w11.setCell ⟨g1, k * 11, none⟩ (.string ⟨#[]⟩) = W12 at HV12 HB12 ⊢
  clear m0 m1 m2 z0 f0 HV11 HB11
  have HW4 := Lib.hid (HWW.out.where_ _ W12 HV12.out.r)
  rw [F4.out] at HW4
  dsimp only [cfv] at HW4
  obtain ⟨m0, m1, m2⟩ := HV12.out.s.cells
  go_wp2_with fail
  refine HW4.out.mono ?_
  rintro e w13 ⟨rfl, hb13⟩
  have HV13 := Lib.hid (HV12.out.on hb13)
  have HB13 := Lib.hid (HB12.out.trans (hb13.mono HB12.out.size))
  clear hb13 m0 m1 m2 HV12 HB12 HW4 F4
  obtain ⟨m0, m1, m2⟩ := HV13.out.s.cells
  have HKV := Lib.hid (HKN.out w13)
  have q1 : ((n2 : Int) == ((n2 + 1 : Nat) : Int) - 1) = true := by simp
  go_wp2_with fail
  refine HKV.out.mono ?_
  rintro e w14 ⟨rfl, hb14⟩
  have HB14 := Lib.hid (HB13.out.trans (hb14.mono HB13.out.size))
  clear hb14 m0 m1 m2 HV13 HKV
  go_wp2_with fail
  go_ret
  exact Ans.mk rfl HB14.out
end Go.Proofs.Ytgoeikihjffeoaa
