/- MoveSame: a move that may be leaves all the same to all, with a run less at least (the walk; what package move answers is a premise). -/
import Derived.Test.YtoaocdmcjjohgaaLow8
import Derived.Test.YtoaocdmcjjohgaaMsw
import Derived.Test.YtoaocdmcjjohgaaCfg
import Derived.Test.YtoaocdmcjjohgaaLow7
import Derived.Test.YtoaocdmcjjohgaaLow6
namespace Go.Proofs.Ytoaocdmcjjohgaa.moveSame
open Go.ChangeShapes Go.WideShapes Go.ChangeAt Go.RowKit Tab
set_option linter.unusedSimpArgs false
set_option linter.unusedVariables false

/-- What a move that may be does. -/
theorem moved {D : Int → Int → Bool} (hD : ∀ a b, D a b = D b a) {Z : List Rn} (hZ : tidy Z = Z) {x : Mo} (hx : x ∈ allF D (Z.map Rn.p)) (rt : Bool) :
    mayZ D (Z.map Rn.p) (x.i : Int) (x.j : Int) = true ∧ (∀ q, tkOf q (doZ Z x.i x.j rt) = tkOf q Z) ∧ SameW D Z (doZ Z x.i x.j rt) ∧ (doZ Z x.i x.j rt).length < Z.length ∧ swi (tidy (doZ Z x.i x.j rt)) ≤ swi (tidy Z) := by
  obtain ⟨h1, h2, h3⟩ := mem_allF hx
  have hz := mayZ_nat D h1 h2
  rw [List.length_map] at h2
  have hb : mayB D Z x.i x.j = true := by rw [mayB_parts]; exact h3
  have ex : Z[x.i]? = some Z[x.i] := List.getElem?_eq_getElem (by omega)
  have ey : Z[x.j]? = some Z[x.j] := List.getElem?_eq_getElem h2
  have hd : doZ Z x.i x.j rt = tidy (mv Z x.i x.j rt) := by
    unfold doZ
    rw [if_pos ⟨by omega, by omega, by omega⟩]
    rfl
  have hp := ((mayB_iff ex ey).1 hb).2.1
  rw [hd, hz]
  refine ⟨h3, fun q => by rw [tkOf_tidy, mv_tk h1 ex ey hp], mv_same hD hb rt, mv_less h1 ex ey rt, ?_⟩
  have h4 := mv_swi h1 ex ey rt
  have h5 := swi_tidy (tidy (mv Z x.i x.j rt))
  rw [hZ]
  omega
set_option maxRecDepth 100000 in
set_option maxHeartbeats 8000000 in
theorem walk (H : MoveW) (A0 : Option Addr) (n0 k0 : Nat) (f0 : Nat → Int) (wh : Int) (rt : Bool) (w : World) (r0 : RdC w w.heap.size A0 n0 fun j => .int .i64 (f0 j)) (hc0 : n0 ≤ k0) (b0 : k0 ≤ 140737488351232) :
    Calls Try.prog 5 #[.slice A0 n0 k0, .int .i64 wh, .bool rt] w (Ans (.bool true) w) := by
  have HT0 := Lib.hid (tape_boxed A0 n0 k0 f0 w r0)
  have HBT := Lib.hid (bl1 w (.cells #[.slice A0 n0 k0, .int .i64 0] 26))
  clear r0
  go_enter Try.func5, Try.ntmps5
  go_upto_region 2 with fail
  obtain ⟨b, hbb⟩ : ∃ b, b = w.heap.size := ⟨_, rfl⟩
  rw [← hbb] at HT0 ⊢
  generalize w.alloc (.cells #[.slice A0 n0 k0, .int .i64 0] 26) = wA at HT0 HBT ⊢
  have HLW : Hid (w.heap.size ≤ b) := Lib.hid (by omega)
  clear hbb
  have HBA : Hid (b < wA.heap.size) := Lib.hid HT0.out.lt
  go_wp2_with fail
  refine (config_anyx b b A0 n0 k0 f0 (by omega) 0 wA HT0.out).mono ?_
  rintro e w2 ⟨A1, A2, A3, n1, n2, n3, c1, c2, c3, P, C, T3, at1, rfl, hCf, q1, q2, q3, q4, q5, hco, hTb, hTt, q6, q7, q8, T6, G6, hper, _, _, hPo, hCo, hd12⟩
  have hbl := bl1 w2 (.cells #[.slice A1 n1 c1, .slice A2 n2 c2, .slice A3 n3 c3] 31)
  have HPO := Lib.hid (hPo.below hbl)
  have HCO := Lib.hid (hCo.below hbl)
  have HT6 := Lib.hid (T6.below hbl T6.lt)
  have HBX := Lib.hid (box_vec w2 (.slice A1 n1 c1) (.slice A2 n2 c2) (.slice A3 n3 c3) 31)
  have HB3 : Hid (Below w.heap.size w (w2.alloc (.cells #[.slice A1 n1 c1, .slice A2 n2 c2, .slice A3 n3 c3] 31))) := Lib.hid (by
    have hx := HBA.out
    have hy := HLW.out
    have h2 : Below w.heap.size w w2 := HBT.out.trans ⟨G6.os, G6.tape, G6.output, G6.size, fun q hq => G6.block q (Nat.lt_of_lt_of_le hq HBT.out.size) (fun e => by injection e with e; omega)⟩
    exact h2.trans (hbl.mono h2.size))
  have HG : Hid (b < w2.heap.size) := Lib.hid (Nat.lt_of_lt_of_le HBA.out G6.size)
  clear hCf hTb hTt hco T6 G6 hper hPo hCo hd12 hbl HT0 HBT
  go_upto_region 3 with fail
  generalize w2.alloc (.cells #[.slice A1 n1 c1, .slice A2 n2 c2, .slice A3 n3 c3] 31) = w3 at HPO HCO HT6 HBX HB3 ⊢
  generalize w2.heap.size = gq at HBX HG ⊢
  obtain ⟨x0, x1, x2⟩ := HBX.out.three
  go_wp2_with fail
  refine (row_any b b A0 n0 k0 f0 (by omega) n1 14 (by omega) (by omega) (by omega) (by omega) at1 w3 HT6.out).mono ?_
  rintro e w4 ⟨L, AL, nl, cl, at2, rfl, hL, hown, h1a, h1b, T1, G4⟩
  clear x0 x1 x2
  have hlT := tidy_le L
  rw [hown.rdr.len] at hlT
  have htk : ticks L ≤ 64 := by
    have := fair_ticks hL
    rw [hown.rdr.len] at this
    omega
  have hT := rtidy_any AL nl cl L w4 hown.rdr hown.cap (by omega) (by omega)
  have htt : ticks (tidy L) ≤ 64 := by rw [ticks_tidy]; exact htk
  have hprt : ∀ q ∈ (tidy L).map Rn.p, -1 ≤ q ∧ q ≤ 1024 := fun q hq => by
    obtain ⟨r, hr, rfl⟩ := List.mem_map.1 hq
    obtain ⟨x, hx, e⟩ := tidy_part hr
    have h3 := hL x hx
    unfold Fair at h3
    omega
  have hidm : tidy (tidy L) = tidy L := tidy_tidy L
  unfold MadeR at hT
  generalize tidy L = Z at hlT hT htt hprt hidm
  have HT := Lib.hid hT
  have HPI := Lib.hid hprt
  have HID := Lib.hid hidm
  have hx := HBA.out
  have hy := HLW.out
  have hz := HG.out
  have HB4 : Hid (Below w.heap.size w w4) := Lib.hid (HB3.out.trans ⟨G4.os, G4.tape, G4.output, G4.size, fun q hq => G4.block q (Nat.lt_of_lt_of_le hq HB3.out.size) (fun e => by injection e with e; omega)⟩)
  have HBX4 := Lib.hid (HBX.out.keep (G4.block gq HBX.out.lt (fun e => by injection e with e; omega)) G4.size)
  have HCF : Hid (CfW w4 w4.heap.size A1 A2 n1 n2 P C) := Lib.hid ⟨(HPO.out.gb G4 (by omega)).rdb, (HCO.out.gb G4 (by omega)).rdb⟩
  clear hown T1 G4 hL hprt hT hidm htk HPO HCO HT6 HBX HB3 hx hy hz
  go_wp2_with fail
  refine HT.out.mono ?_
  rintro e w4' ⟨A2', c2', rfl, hr2, hc2, hb2, _⟩
  obtain ⟨n, hn⟩ : ∃ n, n = Z.length := ⟨_, rfl⟩
  rw [← hn] at hr2 hc2 hlT ⊢
  have HN := Lib.hid hn
  have HR4 := Lib.hid hr2
  have HB4' := Lib.hid (HB4.out.trans (hb2.mono HB4.out.size))
  have HCF' := Lib.hid (HCF.out.on hb2)
  obtain ⟨x0, x1, x2⟩ := (HBX4.out.on hb2).three
  clear hr2 hb2 hn HT HB4 HCF HBX4
  go_wp2_with fail
  refine (rdepends_any A1 A2 A3 n1 n2 n3 c1 c2 c3 P C w4' HCF'.out (by omega) (by omega)).mono ?_
  intro e w5 hm
  obtain ⟨A7, c7, rfl, hc7, hm7, hb7⟩ := hm.m
  generalize depF (P.map ptOf) (C.map chOf) = m at hm7
  clear hm x0 x1 x2 HCF'
  have HM7 := Lib.hid hm7
  have HR5 := Lib.hid (HR4.out.on hb7)
  have HB5 := Lib.hid (HB4'.out.trans (hb7.mono HB4'.out.size))
  clear hm7 hb7 HR4 HB4'
  have hrp := HR5.out.rdp
  have CA := Lib.hid (H.all A2' A7 n c2' n1 c7 (Z.map Rn.p) m w5 hrp HM7.out hc2 (by omega) (by omega) HPI.out)
  have CM := Lib.hid fun (I J : Int) (rt : Bool) W' (hb : Below w5.heap.size w5 W') => H.may A2' A7 n c2' n1 c7 (Z.map Rn.p) m I J rt W' (HR5.out.rdp.on hb) (HM7.out.on hb) hc2 (by omega) (by omega) HPI.out
  have hR1 : (allF (depW n1 m) (Z.map Rn.p)).length ≤ 2097152 := allF_le (by rw [List.length_map, ← HN.out]; omega)
  have hmv : ∀ x ∈ allF (depW n1 m) (Z.map Rn.p), mayZ (depW n1 m) (Z.map Rn.p) (x.i : Int) (x.j : Int) = true ∧ (∀ q, tkOf q (doZ Z x.i x.j rt) = tkOf q Z) ∧ SameW (depW n1 m) Z (doZ Z x.i x.j rt) ∧ (doZ Z x.i x.j rt).length < Z.length ∧ swi (tidy (doZ Z x.i x.j rt)) ≤ swi (tidy Z) := fun x hx => moved (depW_sym n1 m) HID.out hx rt
  generalize allF (depW n1 m) (Z.map Rn.p) = R at CA hR1 hmv
  have HMV := Lib.hid hmv
  clear hrp hmv
  go_wp2_with fail
  refine CA.out.mono ?_
  rintro e w6 ⟨A4, c4, rfl, how, hb6⟩
  have HOW := Lib.hid how.rdb
  have HK6 := Lib.hid hb6
  obtain ⟨rl, hrl⟩ : ∃ rl, rl = R.length := ⟨_, rfl⟩
  rw [← hrl] at HOW hR1 ⊢
  clear how hb6 hrl CA
  by_cases hr0 : rl = 0
  · subst hr0
    have HKW := Lib.hid (HB5.out.trans (HK6.out.mono HB5.out.size))
    go_wp2_with fail
    refine (H.known w6).mono ?_
    rintro e w7 ⟨rfl, hb7⟩
    go_wp2_with fail
    go_ret
    exact Ans.mk rfl (HKW.out.trans (hb7.mono HKW.out.size))
  · have hrb : ((rl : Int) == 0) = false := beq_eq_false_iff_ne.2 (by omega)
    have hws : IntKind.i64.wrap ((rl : Int) - 1) = (rl : Int) - 1 := IntWalk.i64_in _ (by omega)
    have CW := Lib.hid (within_at wh ((rl : Int) - 1) (rl - 1) w6 (by omega) (by omega))
    go_wp2_with fail
    refine CW.out.mono ?_
    rintro e w6' ⟨v, hv, rfl, rfl⟩
    obtain ⟨am, x, rfl, ham, hx, d0, dk⟩ := HOW.out.at_ mcl_len (by omega) (i := v) (by omega)
    have hvr : v < rl := by omega
    have hvi : (v : Int) < (rl : Int) := by omega
    have e0 := d0 _ rfl
    have e1 := dk 1 _ (by omega) rfl
    have e2 := dk 2 _ (by omega) rfl
    obtain ⟨hmz, htq, hsw, hln, hsi⟩ := HMV.out x (List.mem_of_getElem? hx)
    obtain ⟨i, j, r0⟩ := x
    dsimp only at e0 e1 e2 hmz htq hsw hln hsi
    have HTQ := Lib.hid htq
    have HSW := Lib.hid hsw
    have HMZ := Lib.hid hmz
    have hdt := doZ_ticks Z (i : Int) (j : Int) rt
    have CD := Lib.hid fun W' (hb : Below w5.heap.size w5 W') => H.do_ A2' n c2' Z (i : Int) (j : Int) rt W' (HR5.out.on hb) hc2 (by omega) (by omega)
    clear d0 dk hx htq hsw hmz CW
    have hbl := bl1 w6 (.cells #[.int .i64 (i : Int), .int .i64 (j : Int), .bool rt] 37)
    have hv3 : Vec (w6.alloc (.cells #[.int .i64 (i : Int), .int .i64 (j : Int), .bool rt] 37)) w6.heap.size 3 (fun q => if q = 0 then .int .i64 (i : Int) else if q = 1 then .int .i64 (j : Int) else .bool rt) := Vec.lit w6 _ _ 3 _ fun q hq => by
      rcases (by omega : q = 0 ∨ q = 1 ∨ q = 2) with rfl | rfl | rfl <;> rfl
    have HK7 := Lib.hid (HK6.out.trans (hbl.mono HK6.out.size))
    have HV3 := Lib.hid hv3
    clear hbl hv3
    go_upto_region 10 with fail
    generalize w6.alloc (.cells #[.int .i64 (i : Int), .int .i64 (j : Int), .bool rt] 37) = W1 at HK7 HV3 ⊢
    generalize w6.heap.size = gm at HV3 ⊢
    clear e0 e1 e2 ham hrb hws
    obtain ⟨e0, e1, e2⟩ := HV3.out.three
    have HD := Lib.hid (CD.out W1 HK7.out)
    have HS := Lib.hid fun (q : Int) W' (hb : Below w5.heap.size w5 W') => xticks_any A2' n c2' Z q W' (HR5.out.on hb) hc2 (by omega) (by omega)
    have HW := Lib.hid fun W' (hb : Below w5.heap.size w5 W') => rswitches_any A2' n c2' Z W' (HR5.out.on hb) hc2 (by omega) (by omega)
    generalize doZ Z (i : Int) (j : Int) rt = Y at HD HTQ HSW hln hsi hdt
    go_wp2_with fail
    refine HD.out.mono ?_
    rintro e w7 ⟨A8, c8, rfl, hr8, hc8, hb8⟩
    obtain ⟨ny, hny⟩ : ∃ ny, ny = Y.length := ⟨_, rfl⟩
    rw [← hny, ← HN.out] at hln
    rw [← hny] at hr8 hc8 ⊢
    have HR8 := Lib.hid hr8
    have HB8 := Lib.hid hb8
    clear e0 e1 e2 hr8 hb8 HD hny
    have HT8 := Lib.hid fun (q : Int) W' (hb : Below w7.heap.size w7 W') => xticks_any A8 ny c8 Y q W' (HR8.out.on hb) hc8 (by omega) (by omega)
    have HK8 := Lib.hid (HK7.out.trans (HB8.out.mono HK7.out.size))
    go_wp2_with fail
    go_loopw [14] (fun s wr => ∃ q : Int, s = .int .i64 q ∧ -1 ≤ q ∧ q ≤ 5 ∧ Below w7.heap.size w7 wr) (fun s _ => (5 - intOf s).toNat)
    case atStart => exact ⟨-1, rfl, by omega, by omega, Below.refl _ _⟩
    case round =>
      obtain ⟨q, rfl, hq1, hq2, hb⟩ := hrel
      have HB := Lib.hid hb
      clear hb
      by_cases hq5 : q < 5
      · have hqd : decide (q < 5) = true := decide_eq_true hq5
        have C1 := Lib.hid (HT8.out q wr HB.out)
        go_wp2_with fail
        refine C1.out.mono ?_
        rintro e w8 ⟨rfl, hb9⟩
        have hb10 := HB.out.trans (hb9.mono HB.out.size)
        have C2 := Lib.hid (HS.out q w8 (HK8.out.trans (hb10.mono HK8.out.size)))
        have HB10 := Lib.hid hb10
        clear hb9 hb10 C1
        go_wp2_with fail
        refine C2.out.mono ?_
        rintro e w9 ⟨rfl, hb11⟩
        rw [← HTQ.out q]
        have HB11 := Lib.hid (HB10.out.trans (hb11.mono HB10.out.size))
        have hw1 : IntKind.i64.wrap (q + 1) = q + 1 := IntWalk.i64_in _ (by omega)
        clear hb11 C2
        go_wp2_with fail
        go_roundw
        case rel => exact ⟨q + 1, by go_num, by omega, by omega, HB11.out⟩
        case measure => simp [intOf]; omega
      · have hqd : decide (q < 5) = false := decide_eq_false hq5
        have k1 := HK8.out.trans (HB.out.mono HK8.out.size)
        obtain ⟨e0, e1, e2⟩ := (HV3.out.on (HB8.out.trans (HB.out.mono HB8.out.size))).three
        have C1 := Lib.hid (CM.out (i : Int) (j : Int) rt wr k1)
        go_wp2_with fail
        refine C1.out.mono ?_
        rintro e w8 ⟨rfl, hb1⟩
        rw [HMZ.out]
        have k2 := k1.trans (hb1.mono k1.size)
        have B2 := HB.out.trans (hb1.mono HB.out.size)
        have C2 := Lib.hid (rsamew_any A2' A8 A7 n ny n1 c2' c8 c7 Z Y m w8 (HR5.out.on k2) (HR8.out.on B2) (HM7.out.on k2) hc2 hc8 (by omega) (by omega) (by omega) (by omega) (by omega))
        rw [(diffF_same (depW n1 m) Z Y).2 HSW.out] at C2
        have K2 := Lib.hid k2
        have HB2 := Lib.hid B2
        clear e0 e1 e2 hb1 C1 k1 k2 B2
        go_wp2_with fail
        refine C2.out.mono ?_
        rintro e w9 ⟨rfl, hb1⟩
        have k3 := K2.out.trans (hb1.mono K2.out.size)
        have B3 := HB2.out.trans (hb1.mono HB2.out.size)
        have C3 := Lib.hid (rswitches_any A8 ny c8 Y w9 (HR8.out.on B3) hc8 (by omega) (by omega))
        have hlni : (ny : Int) < (n : Int) := by omega
        have K3 := Lib.hid k3
        clear hb1 C2 k3 B3
        go_wp2_with fail
        refine C3.out.mono ?_
        rintro e w10 ⟨rfl, hb1⟩
        have k4 := K3.out.trans (hb1.mono K3.out.size)
        have C4 := Lib.hid (HW.out w10 k4)
        have K4 := Lib.hid k4
        clear hb1 C3 k4
        go_wp2_with fail
        refine C4.out.mono ?_
        rintro e w11 ⟨rfl, hb1⟩
        have k5 := K4.out.trans (hb1.mono K4.out.size)
        have hsd : decide ((swi (tidy Y) : Int) ≤ (swi (tidy Z) : Int)) = true := decide_eq_true (by omega)
        have K5 := Lib.hid k5
        clear hb1 C4 k5
        go_wp2_with fail
        refine (H.known w11).mono ?_
        rintro e w12 ⟨rfl, hb7⟩
        have k6 := K5.out.trans (hb7.mono K5.out.size)
        go_wp2_with fail
        go_ret
        exact Ans.mk rfl (HB5.out.trans (k6.mono HB5.out.size))
end Go.Proofs.Ytoaocdmcjjohgaa.moveSame
