/- MoveTells: windows are moved as the document says, for any rows, any places (the walk). -/
import Derived.Test.YtoaocdmcjjohgaaLow2
import Derived.Test.YtoaocdmcjjohgaaPs
import Derived.Test.YtoaocdmcjjohgaaCfg
import Derived.Test.YtoaocdmcjjohgaaLow7
import Derived.Test.YtoaocdmcjjohgaaLow6
namespace Go.Proofs.Ytoaocdmcjjohgaa.moveTells
open Go.ChangeShapes Go.WideShapes Go.ChangeAt Go.RowKit Tab
set_option linter.unusedSimpArgs false
set_option linter.unusedVariables false

set_option maxRecDepth 100000 in
set_option maxHeartbeats 8000000 in
theorem walk (A0 : Option Addr) (n0 k0 : Nat) (f0 : Nat → Int) (a1 a2 : Int) (q3' : Bool) (w : World) (r0 : RdC w w.heap.size A0 n0 fun j => .int .i64 (f0 j)) (hc0 : n0 ≤ k0) (b0 : k0 ≤ 140737488351232) :
    Calls Try.prog 4 #[.slice A0 n0 k0, .int .i64 a1, .int .i64 a2, .bool q3'] w (Ans (.bool true) w) := by
  have HT0 := Lib.hid (tape_boxed A0 n0 k0 f0 w r0)
  have HBT := Lib.hid (bl1 w (.cells #[.slice A0 n0 k0, .int .i64 0] 26))
  clear r0
  go_enter Try.func4, Try.ntmps4
  go_upto_region 2 with fail
  obtain ⟨b, hbb⟩ : ∃ b, b = w.heap.size := ⟨_, rfl⟩
  rw [← hbb] at HT0 ⊢
  generalize w.alloc (.cells #[.slice A0 n0 k0, .int .i64 0] 26) = wA at HT0 HBT ⊢
  have HLW : Hid (w.heap.size ≤ b) := Lib.hid (by omega)
  clear hbb
  have HBA : Hid (b < wA.heap.size) := Lib.hid HT0.out.lt
  go_wp2_with fail
  refine (config_anyz b b A0 n0 k0 f0 (by omega) 0 wA HT0.out).mono ?_
  rintro e w2 ⟨A1, A2, A3, n1, n2, n3, c1, c2, c3, P, C, T3, at1, rfl, hCf, q1, q2, q3, q4, q5, hco, hTb, hTt, q6, q7, q8, T6, G6, hper, _, _, hPo, hCo, hd12, hA3, htA⟩
  have hbl := bl1 w2 (.cells #[.slice A1 n1 c1, .slice A2 n2 c2, .slice A3 n3 c3] 31)
  have HPO := Lib.hid (hPo.below hbl)
  have HCO := Lib.hid (hCo.below hbl)
  have HT6 := Lib.hid (T6.below hbl T6.lt)
  have HBX := Lib.hid (box_vec w2 (.slice A1 n1 c1) (.slice A2 n2 c2) (.slice A3 n3 c3) 31)
  obtain ⟨t0, ht0⟩ : ∃ t0, T3[0]? = some t0 := ⟨_, List.getElem?_eq_getElem (by have := hTb.len; omega)⟩
  have HTB := Lib.hid (hTb.on hbl)
  have HTA : Hid (TbAt (w2.alloc (.cells #[.slice A1 n1 c1, .slice A2 n2 c2, .slice A3 n3 c3] 31)) (w2.alloc (.cells #[.slice A1 n1 c1, .slice A2 n2 c2, .slice A3 n3 c3] 31)).heap.size t0 ∧ Frame t0) := Lib.hid ⟨((hTt t0 (List.mem_of_getElem? ht0)).1).on hbl, (hTt t0 (List.mem_of_getElem? ht0)).2⟩
  have HNB : Hid ((∀ k, obk A3 = some k → k ≠ b) ∧ (∀ k, obk t0.A = some k → k ≠ b)) := Lib.hid ⟨fun k e => by have h1 := hA3 k e; have h2 := HBA.out; omega, fun k e => by have h1 := htA t0 (List.mem_of_getElem? ht0) k e; have h2 := HBA.out; omega⟩
  have HB3 : Hid (Below w.heap.size w (w2.alloc (.cells #[.slice A1 n1 c1, .slice A2 n2 c2, .slice A3 n3 c3] 31))) := Lib.hid (by
    have hx := HBA.out
    have hy := HLW.out
    have h2 : Below w.heap.size w w2 := HBT.out.trans ⟨G6.os, G6.tape, G6.output, G6.size, fun q hq => G6.block q (Nat.lt_of_lt_of_le hq HBT.out.size) (fun e => by injection e with e; omega)⟩
    exact h2.trans (hbl.mono h2.size))
  have HG : Hid (b < w2.heap.size) := Lib.hid (Nat.lt_of_lt_of_le HBA.out G6.size)
  have HPER := Lib.hid hper
  have HT0 := Lib.hid ht0
  clear hCf hTb hTt hco T6 G6 hper hPo hCo hd12 hbl HBT hA3 htA ht0
  go_upto_region 3 with fail
  generalize w2.alloc (.cells #[.slice A1 n1 c1, .slice A2 n2 c2, .slice A3 n3 c3] 31) = w3 at HPO HCO HT6 HBX HB3 HTB HTA ⊢
  generalize w2.heap.size = gq at HBX HG ⊢
  obtain ⟨x0, x1, x2⟩ := HBX.out.three
  go_wp2_with fail
  refine (row_any b b A0 n0 k0 f0 (by omega) n1 14 (by omega) (by omega) (by omega) (by omega) at1 w3 HT6.out).mono ?_
  rintro e w4 ⟨L, AL, nl, cl, at2, rfl, hL, hown, h1a, h1b, T1, G4⟩
  clear x0 x1 x2
  have hcl := hown.cap
  have htk : ticks L ≤ 56 := by
    have := fair_ticks hL
    rw [hown.rdr.len] at this
    omega
  have HLP : Hid (∀ r ∈ L, -1 ≤ r.p ∧ r.p ≤ 1024) := Lib.hid fun r hr => by
    have h3 := hL r hr
    unfold Fair at h3
    omega
  have HRL := Lib.hid hown.rdr
  have hx := HBA.out
  have hy := HLW.out
  have hz := HG.out
  have HB4 : Hid (Below w.heap.size w w4) := Lib.hid (HB3.out.trans ⟨G4.os, G4.tape, G4.output, G4.size, fun q hq => G4.block q (Nat.lt_of_lt_of_le hq HB3.out.size) (fun e => by injection e with e; omega)⟩)
  have hbx4 := HBX.out.keep (G4.block gq HBX.out.lt (fun e => by injection e with e; omega)) G4.size
  have HCF : Hid (CfW w4 w4.heap.size A1 A2 n1 n2 P C) := Lib.hid ⟨(HPO.out.gb G4 (by omega)).rdb, (HCO.out.gb G4 (by omega)).rdb⟩
  have hon : Only (fun k => k = b) w3 w4 := Only.gb G4 rfl
  have htb4 : RdB tcl w4 w4.heap.size A3 n3 T3 := ⟨HTB.out.len, hon.rdv (B := 0) HTB.out.rd fun k e => HNB.out.1 k e⟩
  have HTA4 : Hid (TbAt w4 w4.heap.size t0) := Lib.hid (HTA.out.1.only hon fun k e => HNB.out.2 k e)
  obtain ⟨ad3, t0', hB3, _, ht0', hc0', _⟩ := htb4.at_ tcl_len (by omega) (i := 0) (by omega)
  subst hB3
  rw [HT0.out] at ht0'
  injection ht0' with ht0'
  subst ht0'
  have hd0 := hc0' _ rfl
  have ha0 : ad3.add 0 = ad3 := by simp [Addr.add]
  rw [Nat.zero_mul, ha0] at hd0
  have HBX4 := Lib.hid hbx4
  have HOK := Lib.hid HTA4.out.ok
  have HOF := Lib.hid (rof_new t0 w4 HTA4.out HTA.out.2)
  obtain ⟨x0, x1, x2⟩ := hbx4.three
  obtain ⟨tA, tn, tc, tx, tk⟩ := t0
  dsimp only at hd0 HOF
  have hj0 : (0 : Int) < (n3 : Int) := by omega
  have hj0' : 0 < n3 := by omega
  clear hown T1 G4 hL HPO HCO HT6 HBX HB3 hx hy hz hbx4 hon htb4 hc0' HTB HTA HTA4 HNB HT0
  go_wp2_with fail
  refine HOF.out.mono ?_
  rintro e w5 ⟨r, rfl, hr, hb5, _, hrl⟩
  have hrd := hr.rd
  have hrc := hr.cap
  have hrf := hr.few
  have hrt := hr.tk
  obtain ⟨ra, rn, rc, rl⟩ := r
  unfold Rw.v
  dsimp only at hrd hrc hrf hrt hrl ⊢
  have HRP : Hid (∀ r ∈ rl, -1 ≤ r.p ∧ r.p ≤ 1024) := Lib.hid fun r hr => by
    rw [hrl] at hr
    have := (ofz_runs HOK.out).2 r hr
    omega
  have HRR := Lib.hid hrd
  have HL5 := Lib.hid (HRL.out.on hb5)
  have HC5 := Lib.hid (HCF.out.on hb5)
  have HX5 := Lib.hid (HBX4.out.on hb5)
  have HB5 := Lib.hid (HB4.out.trans (hb5.mono HB4.out.size))
  clear hb5 HOF hrd hr hrl x0 x1 x2 HRL HCF HBX4 HB4 HOK hd0
  obtain ⟨x0, x1, x2⟩ := HX5.out.three
  obtain ⟨M1, hM1, hM1'⟩ := and_mask a1 15 (by omega)
  obtain ⟨M2, hM2, hM2'⟩ := and_mask a2 15 (by omega)
  obtain ⟨M3, hM3, hM3'⟩ := and_mask a1 3 (by omega)
  obtain ⟨M4, hM4, hM4'⟩ := and_mask a2 7 (by omega)
  have HMS : Hid (bits .and .i64 a1 15 = (M1 : Int) ∧ bits .and .i64 a2 15 = (M2 : Int) ∧ bits .and .i64 a1 3 = (M3 : Int) ∧ bits .and .i64 a2 7 = (M4 : Int) ∧ IntKind.i64.wrap ((M3 : Int) + 1) = (M3 : Int) + 1 ∧ IntKind.i64.wrap ((M3 : Int) + 1 + (M4 : Int)) = (M3 : Int) + 1 + (M4 : Int)) :=
    Lib.hid ⟨hM1, hM2, hM3, hM4, IntWalk.i64_in _ (by omega), IntWalk.i64_in _ (by omega)⟩
  clear hM1 hM2 hM3 hM4
  have S1 := Lib.hid fun (I J : Int) (rt : Bool) W (hb : Below w5.heap.size w5 W) => lsame_row A1 A2 (some ad3) AL n1 n2 n3 nl c1 c2 c3 cl P C L I J rt W (HC5.out.on hb) (HL5.out.on hb) (by omega) (by omega) hcl (by omega) (by omega) HPER.out HLP.out
  have S2 := Lib.hid fun (I J : Int) (rt : Bool) W (hb : Below w5.heap.size w5 W) => lsame_row A1 A2 (some ad3) ra n1 n2 n3 rn c1 c2 c3 rc P C rl I J rt W (HC5.out.on hb) (HRR.out.on hb) (by omega) (by omega) hrc (by omega) (by omega) HPER.out HRP.out
  clear HLP HRP HRR HL5 HC5 HPER
  obtain ⟨hm1, hm2, hm3, hm4, hw1, hw2⟩ := HMS.out
  go_wp2_with fail
  refine (S1.out (M1 : Int) (M2 : Int) q3' w5 (Below.refl _ _)).mono ?_
  rintro e w6 ⟨rfl, hb6⟩
  have HK6 := Lib.hid hb6
  clear hb6 x0 x1 x2
  obtain ⟨x0, x1, x2⟩ := (HX5.out.on HK6.out).three
  go_wp2_with fail
  refine (S1.out a1 a2 q3' w6 HK6.out).mono ?_
  rintro e w7 ⟨rfl, hb7⟩
  have HK7 := Lib.hid (HK6.out.trans (hb7.mono HK6.out.size))
  clear hb7 x0 x1 x2
  obtain ⟨x0, x1, x2⟩ := (HX5.out.on HK7.out).three
  go_wp2_with fail
  refine (S2.out (M3 : Int) ((M3 : Int) + 1 + (M4 : Int)) q3' w7 HK7.out).mono ?_
  rintro e w8 ⟨rfl, hb8⟩
  have HK8 := Lib.hid (HK7.out.trans (hb8.mono HK7.out.size))
  clear hb8 x0 x1 x2
  go_wp2_with fail
  refine (known10_any w8).mono ?_
  rintro e w9 ⟨rfl, hb9⟩
  have HB9 := Lib.hid (HB5.out.trans ((HK8.out.trans (hb9.mono HK8.out.size)).mono HB5.out.size))
  clear hb9
  go_wp2_with fail
  go_ret
  exact Ans.mk rfl HB9.out
end Go.Proofs.Ytoaocdmcjjohgaa.moveTells
