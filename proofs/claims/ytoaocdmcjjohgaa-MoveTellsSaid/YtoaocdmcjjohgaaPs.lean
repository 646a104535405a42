/- Law 10's comparison: what the program answers is what the document does (of whatever row whose Do and Fits are known). -/
import Derived.Test.YtoaocdmcjjohgaaPw
import Derived.Test.YtoaocdmcjjohgaaPr
import Derived.Test.YtoaocdmcjjohgaaMto
import Derived.Test.YtoaocdmcjjohgaaLow6
namespace Go.Proofs.Ytoaocdmcjjohgaa
open Go.ChangeShapes Go.WideShapes Go.ChangeAt Go.RowKit Tab
set_option linter.unusedSimpArgs false
set_option linter.unusedVariables false

set_option maxRecDepth 100000 in
set_option maxHeartbeats 8000000 in
theorem lsameG_any (ok : Int → Int → Prop) (RR : Int → Int → Bool → List Rn) (FF : Int → Int → Bool → Bool) (A1 A2 A3 A : Option Addr) (n1 n2 n3 n c1 c2 c3 c : Nat) (P : List PtV) (C : List ChV) (ps : List Int) (I J : Int) (rt : Bool) (w : World) (hCf : CfW w w.heap.size A1 A2 n1 n2 P C) (hL : RdP w w.heap.size A n ps)
    (q1 : n1 ≤ 1024) (q2 : n2 ≤ 1048576) (hc : n ≤ c) (hn : n ≤ 1024) (hps : ∀ q ∈ ps, -1 ≤ q ∧ q ≤ 1024) (hok : ok I J) (hQk : ∀ x ∈ allF (depW n1 (depF (P.map ptOf) (C.map chOf))) ps, ok (x.i : Int) (x.j : Int)) (hRR : ∀ I J rt, ok I J → (RR I J rt).length ≤ 1048576)
    (hdo : ∀ I J rt W, ok I J → Below w.heap.size w W → Calls Try.prog 18 #[.slice A n c, .agg #[.int .i64 I, .int .i64 J, .bool rt]] W (RowQ (RR I J rt) W)) (hrd : ∀ I J rt W, ok I J → Below w.heap.size w W → Calls Try.prog 32 #[.slice A n c, .agg #[.int .i64 I, .int .i64 J, .bool rt]] W (RowQ (RR I J rt) W))
    (hfi : ∀ I J rt W, ok I J → Below w.heap.size w W → Calls Try.prog 29 #[.agg #[.slice A1 n1 c1, .slice A2 n2 c2, .slice A3 n3 c3], .slice A n c, .agg #[.int .i64 I, .int .i64 J, .bool rt]] W (Ans (.bool (FF I J rt)) W)) (hrf : ∀ I J rt W, ok I J → Below w.heap.size w W → Calls Try.prog 30 #[.agg #[.slice A1 n1 c1, .slice A2 n2 c2, .slice A3 n3 c3], .slice A n c, .agg #[.int .i64 I, .int .i64 J, .bool rt]] W (Ans (.bool (FF I J rt)) W)) :
    Calls Try.prog 11 #[.slice A n c, .agg #[.slice A1 n1 c1, .slice A2 n2 c2, .slice A3 n3 c3], .agg #[.int .i64 I, .int .i64 J, .bool rt]] w (Ans (.bool true) w) := by
  have hb1 := bl1 w (.cells #[.slice A1 n1 c1, .slice A2 n2 c2, .slice A3 n3 c3] 31)
  have hb2 := bl1 (w.alloc (.cells #[.slice A1 n1 c1, .slice A2 n2 c2, .slice A3 n3 c3] 31)) (.cells #[.int .i64 I, .int .i64 J, .bool rt] 37)
  have hbb := hb1.trans (hb2.mono hb1.size)
  have hbox := (box_vec w (.slice A1 n1 c1) (.slice A2 n2 c2) (.slice A3 n3 c3) 31).on hb2
  have hsz : (w.alloc (.cells #[.slice A1 n1 c1, .slice A2 n2 c2, .slice A3 n3 c3] 31)).heap.size = w.heap.size + 1 := by simp
  have hmv : Vec ((w.alloc (.cells #[.slice A1 n1 c1, .slice A2 n2 c2, .slice A3 n3 c3] 31)).alloc (.cells #[.int .i64 I, .int .i64 J, .bool rt] 37)) (w.alloc (.cells #[.slice A1 n1 c1, .slice A2 n2 c2, .slice A3 n3 c3] 31)).heap.size 3 (fun q => if q = 0 then .int .i64 I else if q = 1 then .int .i64 J else .bool rt) := Vec.lit _ _ _ 3 _ fun q hq => by
    rcases (by omega : q = 0 ∨ q = 1 ∨ q = 2) with rfl | rfl | rfl <;> rfl
  rw [hsz] at hmv
  have HBB := Lib.hid hbb
  have HCF := Lib.hid (hCf.on hbb)
  have HL := Lib.hid (hL.on hbb)
  have HBX := Lib.hid hbox
  have HMX := Lib.hid hmv
  have HPI := Lib.hid hps
  have HOK := Lib.hid hok
  have HQK := Lib.hid hQk
  have HRR := Lib.hid hRR
  have HD := Lib.hid hdo
  have HR := Lib.hid hrd
  have HF := Lib.hid hfi
  have HG := Lib.hid hrf
  have HRL0 := Lib.hid hL.len
  clear hb1 hb2 hbb hsz hCf hL hps hok hQk hRR hdo hrd hfi hrf hbox hmv
  go_enter Try.func11, Try.ntmps11
  go_upto_region 1 with fail
  generalize (w.alloc (.cells #[.slice A1 n1 c1, .slice A2 n2 c2, .slice A3 n3 c3] 31)).alloc (.cells #[.int .i64 I, .int .i64 J, .bool rt] 37) = wa at HBB HCF HL HBX HMX ⊢
  generalize w.heap.size + 1 = gm at HMX ⊢
  obtain ⟨gc, hgc⟩ : ∃ gc, gc = w.heap.size := ⟨_, rfl⟩
  rw [← hgc] at HBX ⊢
  clear hgc
  obtain ⟨m0, m1, m2⟩ := HBX.out.three
  go_wp2_with fail
  refine (rdepends_any A1 A2 A3 n1 n2 n3 c1 c2 c3 P C wa HCF.out q1 q2).mono ?_
  intro e w5 hdm
  obtain ⟨A7, c7, rfl, hc7, hm7, hb7⟩ := hdm.m
  clear hdm m0 m1 m2
  obtain ⟨m, hmm⟩ : ∃ m, m = depF (P.map ptOf) (C.map chOf) := ⟨_, rfl⟩
  rw [← hmm] at hm7 HQK
  have HM7 := Lib.hid hm7
  have HR5 := Lib.hid (HL.out.on hb7)
  have HC5 := Lib.hid (HCF.out.on hb7)
  have HBX5 := Lib.hid (HBX.out.on hb7)
  have HMX5 := Lib.hid (HMX.out.on hb7)
  have HB5 := Lib.hid (HBB.out.trans (hb7.mono HBB.out.size))
  clear hm7 hb7 HL HCF HBX HMX HBB hmm
  have CA := Lib.hid (all_any A A7 n c n1 c7 ps m w5 HR5.out HM7.out hc hn q1)
  have CB := Lib.hid fun W (hb : Below w5.heap.size w5 W) => rall_any A A7 n c n1 c7 ps m W (HR5.out.on hb) (HM7.out.on hb) hc hn q1 HPI.out
  have hR1 : (allF (depW n1 m) ps).length ≤ 2097152 := allF_le (by rw [HRL0.out]; omega)
  generalize allF (depW n1 m) ps = Q at CA CB hR1 HQK
  go_wp2_with fail
  refine CA.out.mono ?_
  rintro e w6 ⟨A4, c4, rfl, how4, hb6⟩
  have HK6 := Lib.hid hb6
  have HO4 := Lib.hid how4
  clear how4 hb6 CA
  go_wp2_with fail
  refine (CB.out w6 HK6.out).mono ?_
  rintro e wb ⟨A5, c5, rfl, how5, hb8⟩
  have HK8 := Lib.hid (HK6.out.trans (hb8.mono HK6.out.size))
  have HO5 := Lib.hid how5.rdb
  have HO4' := Lib.hid (HO4.out.below hb8).rdb
  have HBB := Lib.hid (HB5.out.trans (HK8.out.mono HB5.out.size))
  clear how5 hb8 CB HO4 HK6
  obtain ⟨m0, m1, m2⟩ := (HBX5.out.on HK8.out).three
  obtain ⟨f0, f1, f2⟩ := (HMX5.out.on HK8.out).three
  have HMA := Lib.hid fun W (hb : Below wb.heap.size wb W) => may_any A A7 n c n1 c7 ps m I J rt W (HR5.out.on (HK8.out.trans (hb.mono HK8.out.size))) (HM7.out.on (HK8.out.trans (hb.mono HK8.out.size))) hc (by omega) q1
  have HRM := Lib.hid fun W (hb : Below wb.heap.size wb W) => rmay_any A A7 n c n1 c7 ps m I J rt W (HR5.out.on (HK8.out.trans (hb.mono HK8.out.size))) (HM7.out.on (HK8.out.trans (hb.mono HK8.out.size))) hc (by omega) q1 HPI.out
  have CFI := Lib.hid fun (I J : Int) (rt : Bool) (hk : ok I J) W (hb : Below wb.heap.size wb W) => HF.out I J rt W hk (HBB.out.trans (hb.mono HBB.out.size))
  have HFI := Lib.hid (CFI.out I J rt HOK.out)
  have CRF := Lib.hid fun (I J : Int) (rt : Bool) (hk : ok I J) W (hb : Below wb.heap.size wb W) => HG.out I J rt W hk (HBB.out.trans (hb.mono HBB.out.size))
  have HRF := Lib.hid (CRF.out I J rt HOK.out)
  have CDO := Lib.hid fun (I J : Int) (rt : Bool) (hk : ok I J) W (hb : Below wb.heap.size wb W) => HD.out I J rt W hk (HBB.out.trans (hb.mono HBB.out.size))
  have HDO := Lib.hid (CDO.out I J rt HOK.out)
  have CRD := Lib.hid fun (I J : Int) (rt : Bool) (hk : ok I J) W (hb : Below wb.heap.size wb W) => HR.out I J rt W hk (HBB.out.trans (hb.mono HBB.out.size))
  have HRD := Lib.hid (CRD.out I J rt HOK.out)
  have HRL : Hid ((RR I J rt).length ≤ 1048576) := Lib.hid (HRR.out I J rt HOK.out)
  generalize RR I J rt = R at HDO HRD HRL
  generalize mayZ (depW n1 m) ps I J = bm at HMA HRM
  generalize FF I J rt = bf at HFI HRF
  go_wp2_with fail
  refine Rgs.region (by kernel_rfl) (by kernel_rfl) (fun (opn : Nat) (vl : Value) (wo : World) => match opn with | 0 => vl = .slice A4 Q.length c4 | 1 => vl = .int .i64 (Q.length : Int) | 2 => vl = .slice A5 Q.length c5 | 3 => vl = .int .i64 (Q.length : Int) | 4 => vl = .bool false | 5 => vl = .bool false | 6 => vl = .slice A n c | 7 => vl = .slice A7 n1 c7 | 8 => vl = .agg #[.int .i64 I, .int .i64 J, .bool rt] | 9 => vl = .bool bm | 10 => vl = .slice A n c | 11 => vl = .slice A7 n1 c7 | 12 => vl = .agg #[.int .i64 I, .int .i64 J, .bool rt] | 13 => vl = .agg #[.int .i64 I, .int .i64 J, .bool rt] | 14 => vl = .bool bm | 15 => vl = .bool false | 16 => vl = .bool false | 17 => vl = .bool false | 18 => vl = .agg #[.slice A1 n1 c1, .slice A2 n2 c2, .slice A3 n3 c3] | 19 => vl = .slice A n c | 20 => vl = .agg #[.int .i64 I, .int .i64 J, .bool rt] | 21 => vl = .bool bf | 22 => vl = .agg #[.slice A1 n1 c1, .slice A2 n2 c2, .slice A3 n3 c3] | 23 => vl = .slice A n c | 24 => vl = .agg #[.int .i64 I, .int .i64 J, .bool rt] | 25 => vl = .agg #[.int .i64 I, .int .i64 J, .bool rt] | 26 => vl = .bool bf | 27 => vl = .bool false | 28 => vl = .bool false | 29 => vl = .bool false | 30 => vl = .slice A n c | 31 => vl = .agg #[.int .i64 I, .int .i64 J, .bool rt] | 32 => RowX R vl wo | 33 => vl = .slice A n c | 34 => vl = .agg #[.int .i64 I, .int .i64 J, .bool rt] | 35 => vl = .agg #[.int .i64 I, .int .i64 J, .bool rt] | 36 => RowX R vl wo | 37 => vl = .bool true | 38 => vl = .bool false | 39 => vl = .bool false | _ => True) (fun _ _ w' => Below wb.heap.size wb w') (Below.refl _ _).drew (Rgs.steps_of ?_) ?_
  · refine ⟨?_, ?_, ?_, ?_, ?_, ?_, ?_, ?_, ?_, ?_, ?_, ?_, ?_, ?_, ?_, ?_, ?_, ?_, ?_, ?_, ?_, ?_, ?_, ?_, ?_, ?_, ?_, ?_, ?_, ?_, ?_, ?_, ?_, ?_, ?_, ?_, ?_, ?_, ?_, ?_, trivial⟩
    · intro a w1 live S E D C0 h0 hk hW
      have e8 : a.eval (.tmp 8) = .slice A4 Q.length c4 := E 8 rfl
      exact Rgs.val rfl (Reg.wanted_free rfl) (.slice A4 Q.length c4) (by have c := Reg.consts a; generalize a.eval = ρ at *; simp [execOp, go_sem, c.1, c.2, e8]) rfl hW
    · intro a w1 live S E D C0 h0 hk hW
      have d0 : a.eval (.tmp 19) = .slice A4 Q.length c4 := D 0 rfl _ _ rfl rfl
      exact Rgs.val rfl (Reg.wanted_free rfl) (.int .i64 (Q.length : Int)) (by have c := Reg.consts a; generalize a.eval = ρ at *; simp [execOp, go_sem, c.1, c.2, d0]) rfl hW
    · intro a w1 live S E D C0 h0 hk hW
      have e9 : a.eval (.tmp 9) = .slice A5 Q.length c5 := E 9 rfl
      exact Rgs.val rfl (Reg.wanted_free rfl) (.slice A5 Q.length c5) (by have c := Reg.consts a; generalize a.eval = ρ at *; simp [execOp, go_sem, c.1, c.2, e9]) rfl hW
    · intro a w1 live S E D C0 h0 hk hW
      have d2 : a.eval (.tmp 21) = .slice A5 Q.length c5 := D 2 rfl _ _ rfl rfl
      exact Rgs.val rfl (Reg.wanted_free rfl) (.int .i64 (Q.length : Int)) (by have c := Reg.consts a; generalize a.eval = ρ at *; simp [execOp, go_sem, c.1, c.2, d2]) rfl hW
    · intro a w1 live S E D C0 h0 hk hW
      have d1 : a.eval (.tmp 20) = .int .i64 (Q.length : Int) := D 1 rfl _ _ rfl rfl
      have d3 : a.eval (.tmp 22) = .int .i64 (Q.length : Int) := D 3 rfl _ _ rfl rfl
      exact Rgs.val rfl (Reg.wanted_free rfl) (.bool false) (by have c := Reg.consts a; generalize a.eval = ρ at *; simp [execOp, go_sem, c.1, c.2, d1, d3]) rfl hW
    · intro a w1 live S E D C0 h0 hk hW
      have d4 : a.eval (.tmp 23) = .bool false := D 4 rfl _ _ rfl rfl
      exact Rgs.val rfl (Reg.wanted_free rfl) (.bool false) (by have c := Reg.consts a; generalize a.eval = ρ at *; simp [execOp, go_sem, c.1, c.2, d4]) rfl hW
    · intro a w1 live S E D C0 h0 hk hW
      have dg : a.eval (.tmp 24) = .bool false := D 5 rfl _ _ rfl rfl
      have e0 : a.eval (.tmp 0) = .slice A n c := E 0 rfl
      exact Rgs.val rfl (Reg.wanted_if rfl rfl dg rfl) (.slice A n c) (by have c := Reg.consts a; generalize a.eval = ρ at *; simp [execOp, go_sem, c.1, c.2, e0]) rfl hW
    · intro a w1 live S E D C0 h0 hk hW
      have dg : a.eval (.tmp 24) = .bool false := D 5 rfl _ _ rfl rfl
      have e7 : a.eval (.tmp 7) = .slice A7 n1 c7 := E 7 rfl
      exact Rgs.val rfl (Reg.wanted_if rfl rfl dg rfl) (.slice A7 n1 c7) (by have c := Reg.consts a; generalize a.eval = ρ at *; simp [execOp, go_sem, c.1, c.2, e7]) rfl hW
    · intro a w1 live S E D C0 h0 hk hW
      have dg : a.eval (.tmp 24) = .bool false := D 5 rfl _ _ rfl rfl
      have e5 : a.eval (.tmp 5) = .pointer (some ⟨gm, 0, none⟩) := E 5 rfl
      have hc0 := (hW.cell (p := ⟨gm, 0, none⟩) (World.block_lt_of_cell? _ _ f0)).trans f0
      have hc1 := (hW.cell (p := ⟨gm, 1, none⟩) (World.block_lt_of_cell? _ _ f1)).trans f1
      have hc2 := (hW.cell (p := ⟨gm, 2, none⟩) (World.block_lt_of_cell? _ _ f2)).trans f2
      exact Rgs.val rfl (Reg.wanted_if rfl rfl dg rfl) (.agg #[.int .i64 I, .int .i64 J, .bool rt]) (by have c := Reg.consts a; generalize a.eval = ρ at *; simp [execOp, go_sem, c.1, c.2, e5, hc0, hc1, hc2]) rfl hW
    · intro a w1 live S E D C0 h0 hk hW
      have dg : a.eval (.tmp 24) = .bool false := D 5 rfl _ _ rfl rfl
      have d6 : a.eval (.tmp 25) = .slice A n c := D 6 rfl _ _ rfl rfl
      have d7 : a.eval (.tmp 26) = .slice A7 n1 c7 := D 7 rfl _ _ rfl rfl
      have d8 : a.eval (.tmp 27) = .agg #[.int .i64 I, .int .i64 J, .bool rt] := D 8 rfl _ _ rfl rfl
      refine Rgs.call rfl (Reg.wanted_if rfl rfl dg rfl) 20 #[.slice A n c, .slice A7 n1 c7, .agg #[.int .i64 I, .int .i64 J, .bool rt]] (by have c := Reg.consts a; generalize a.eval = ρ at *; simp [execOp, go_sem, c.1, c.2, d6, d7, d8]) ?_
      refine (HMA.out w1 hW).mono ?_
      rintro e w5 ⟨rfl, hb5⟩
      exact ⟨_, rfl, rfl, hW.trans (hb5.mono hW.size), fun j v _ hv => by
          revert hv
          match j with
          | 32 => exact fun h => h.on hb5
          | 36 => exact fun h => h.on hb5
          | 0 | 1 | 2 | 3 | 4 | 5 | 6 | 7 | 8 | 9 | 10 | 11 | 12 | 13 | 14 | 15 | 16 | 17 | 18 | 19 | 20 | 21 | 22 | 23 | 24 | 25 | 26 | 27 | 28 | 29 | 30 | 31 | 33 | 34 | 35 | 37 | 38 | 39 | _ + 40 => exact fun h => h⟩
    · intro a w1 live S E D C0 h0 hk hW
      have dg : a.eval (.tmp 24) = .bool false := D 5 rfl _ _ rfl rfl
      have e0 : a.eval (.tmp 0) = .slice A n c := E 0 rfl
      exact Rgs.val rfl (Reg.wanted_if rfl rfl dg rfl) (.slice A n c) (by have c := Reg.consts a; generalize a.eval = ρ at *; simp [execOp, go_sem, c.1, c.2, e0]) rfl hW
    · intro a w1 live S E D C0 h0 hk hW
      have dg : a.eval (.tmp 24) = .bool false := D 5 rfl _ _ rfl rfl
      have e7 : a.eval (.tmp 7) = .slice A7 n1 c7 := E 7 rfl
      exact Rgs.val rfl (Reg.wanted_if rfl rfl dg rfl) (.slice A7 n1 c7) (by have c := Reg.consts a; generalize a.eval = ρ at *; simp [execOp, go_sem, c.1, c.2, e7]) rfl hW
    · intro a w1 live S E D C0 h0 hk hW
      have dg : a.eval (.tmp 24) = .bool false := D 5 rfl _ _ rfl rfl
      have e5 : a.eval (.tmp 5) = .pointer (some ⟨gm, 0, none⟩) := E 5 rfl
      have hc0 := (hW.cell (p := ⟨gm, 0, none⟩) (World.block_lt_of_cell? _ _ f0)).trans f0
      have hc1 := (hW.cell (p := ⟨gm, 1, none⟩) (World.block_lt_of_cell? _ _ f1)).trans f1
      have hc2 := (hW.cell (p := ⟨gm, 2, none⟩) (World.block_lt_of_cell? _ _ f2)).trans f2
      exact Rgs.val rfl (Reg.wanted_if rfl rfl dg rfl) (.agg #[.int .i64 I, .int .i64 J, .bool rt]) (by have c := Reg.consts a; generalize a.eval = ρ at *; simp [execOp, go_sem, c.1, c.2, e5, hc0, hc1, hc2]) rfl hW
    · intro a w1 live S E D C0 h0 hk hW
      have dg : a.eval (.tmp 24) = .bool false := D 5 rfl _ _ rfl rfl
      have d12 : a.eval (.tmp 31) = .agg #[.int .i64 I, .int .i64 J, .bool rt] := D 12 rfl _ _ rfl rfl
      refine Rgs.call rfl (Reg.wanted_if rfl rfl dg rfl) 28 #[.agg #[.int .i64 I, .int .i64 J, .bool rt]] (by have c := Reg.consts a; generalize a.eval = ρ at *; simp [execOp, go_sem, c.1, c.2, d12]) ?_
      refine (to_any I J rt w1).mono ?_
      rintro e w5 ⟨rfl, hb5⟩
      exact ⟨_, rfl, rfl, hW.trans (hb5.mono hW.size), fun j v _ hv => by
          revert hv
          match j with
          | 32 => exact fun h => h.on hb5
          | 36 => exact fun h => h.on hb5
          | 0 | 1 | 2 | 3 | 4 | 5 | 6 | 7 | 8 | 9 | 10 | 11 | 12 | 13 | 14 | 15 | 16 | 17 | 18 | 19 | 20 | 21 | 22 | 23 | 24 | 25 | 26 | 27 | 28 | 29 | 30 | 31 | 33 | 34 | 35 | 37 | 38 | 39 | _ + 40 => exact fun h => h⟩
    · intro a w1 live S E D C0 h0 hk hW
      have dg : a.eval (.tmp 24) = .bool false := D 5 rfl _ _ rfl rfl
      have d10 : a.eval (.tmp 29) = .slice A n c := D 10 rfl _ _ rfl rfl
      have d11 : a.eval (.tmp 30) = .slice A7 n1 c7 := D 11 rfl _ _ rfl rfl
      have d13 : a.eval (.tmp 32) = .agg #[.int .i64 I, .int .i64 J, .bool rt] := D 13 rfl _ _ rfl rfl
      refine Rgs.call rfl (Reg.wanted_if rfl rfl dg rfl) 27 #[.slice A n c, .slice A7 n1 c7, .agg #[.int .i64 I, .int .i64 J, .bool rt]] (by have c := Reg.consts a; generalize a.eval = ρ at *; simp [execOp, go_sem, c.1, c.2, d10, d11, d13]) ?_
      refine (HRM.out w1 hW).mono ?_
      rintro e w5 ⟨rfl, hb5⟩
      exact ⟨_, rfl, rfl, hW.trans (hb5.mono hW.size), fun j v _ hv => by
          revert hv
          match j with
          | 32 => exact fun h => h.on hb5
          | 36 => exact fun h => h.on hb5
          | 0 | 1 | 2 | 3 | 4 | 5 | 6 | 7 | 8 | 9 | 10 | 11 | 12 | 13 | 14 | 15 | 16 | 17 | 18 | 19 | 20 | 21 | 22 | 23 | 24 | 25 | 26 | 27 | 28 | 29 | 30 | 31 | 33 | 34 | 35 | 37 | 38 | 39 | _ + 40 => exact fun h => h⟩
    · intro a w1 live S E D C0 h0 hk hW
      have dg : a.eval (.tmp 24) = .bool false := D 5 rfl _ _ rfl rfl
      have d9 : a.eval (.tmp 28) = .bool bm := D 9 rfl _ _ rfl rfl
      have d14 : a.eval (.tmp 33) = .bool bm := D 14 rfl _ _ rfl rfl
      exact Rgs.val rfl (Reg.wanted_if rfl rfl dg rfl) (.bool false) (by have c := Reg.consts a; generalize a.eval = ρ at *; simp [execOp, go_sem, c.1, c.2, d9, d14]) rfl hW
    · intro a w1 live S E D C0 h0 hk hW
      have d5 : a.eval (.tmp 24) = .bool false := D 5 rfl _ _ rfl rfl
      have d15 : a.eval (.tmp 34) = .bool false := D 15 rfl _ _ rfl rfl
      exact Rgs.val rfl (Reg.wanted_free rfl) (.bool false) (by have c := Reg.consts a; generalize a.eval = ρ at *; simp [execOp, go_sem, c.1, c.2, d5, d15]) rfl hW
    · intro a w1 live S E D C0 h0 hk hW
      have d16 : a.eval (.tmp 35) = .bool false := D 16 rfl _ _ rfl rfl
      exact Rgs.val rfl (Reg.wanted_free rfl) (.bool false) (by have c := Reg.consts a; generalize a.eval = ρ at *; simp [execOp, go_sem, c.1, c.2, d16]) rfl hW
    · intro a w1 live S E D C0 h0 hk hW
      have dg : a.eval (.tmp 36) = .bool false := D 17 rfl _ _ rfl rfl
      have e4 : a.eval (.tmp 4) = .pointer (some ⟨gc, 0, none⟩) := E 4 rfl
      have hc0 := (hW.cell (p := ⟨gc, 0, none⟩) (World.block_lt_of_cell? _ _ m0)).trans m0
      have hc1 := (hW.cell (p := ⟨gc, 1, none⟩) (World.block_lt_of_cell? _ _ m1)).trans m1
      have hc2 := (hW.cell (p := ⟨gc, 2, none⟩) (World.block_lt_of_cell? _ _ m2)).trans m2
      exact Rgs.val rfl (Reg.wanted_if rfl rfl dg rfl) (.agg #[.slice A1 n1 c1, .slice A2 n2 c2, .slice A3 n3 c3]) (by have c := Reg.consts a; generalize a.eval = ρ at *; simp [execOp, go_sem, c.1, c.2, e4, hc0, hc1, hc2]) rfl hW
    · intro a w1 live S E D C0 h0 hk hW
      have dg : a.eval (.tmp 36) = .bool false := D 17 rfl _ _ rfl rfl
      have e0 : a.eval (.tmp 0) = .slice A n c := E 0 rfl
      exact Rgs.val rfl (Reg.wanted_if rfl rfl dg rfl) (.slice A n c) (by have c := Reg.consts a; generalize a.eval = ρ at *; simp [execOp, go_sem, c.1, c.2, e0]) rfl hW
    · intro a w1 live S E D C0 h0 hk hW
      have dg : a.eval (.tmp 36) = .bool false := D 17 rfl _ _ rfl rfl
      have e5 : a.eval (.tmp 5) = .pointer (some ⟨gm, 0, none⟩) := E 5 rfl
      have hc0 := (hW.cell (p := ⟨gm, 0, none⟩) (World.block_lt_of_cell? _ _ f0)).trans f0
      have hc1 := (hW.cell (p := ⟨gm, 1, none⟩) (World.block_lt_of_cell? _ _ f1)).trans f1
      have hc2 := (hW.cell (p := ⟨gm, 2, none⟩) (World.block_lt_of_cell? _ _ f2)).trans f2
      exact Rgs.val rfl (Reg.wanted_if rfl rfl dg rfl) (.agg #[.int .i64 I, .int .i64 J, .bool rt]) (by have c := Reg.consts a; generalize a.eval = ρ at *; simp [execOp, go_sem, c.1, c.2, e5, hc0, hc1, hc2]) rfl hW
    · intro a w1 live S E D C0 h0 hk hW
      have dg : a.eval (.tmp 36) = .bool false := D 17 rfl _ _ rfl rfl
      have d18 : a.eval (.tmp 37) = .agg #[.slice A1 n1 c1, .slice A2 n2 c2, .slice A3 n3 c3] := D 18 rfl _ _ rfl rfl
      have d19 : a.eval (.tmp 38) = .slice A n c := D 19 rfl _ _ rfl rfl
      have d20 : a.eval (.tmp 39) = .agg #[.int .i64 I, .int .i64 J, .bool rt] := D 20 rfl _ _ rfl rfl
      refine Rgs.call rfl (Reg.wanted_if rfl rfl dg rfl) 29 #[.agg #[.slice A1 n1 c1, .slice A2 n2 c2, .slice A3 n3 c3], .slice A n c, .agg #[.int .i64 I, .int .i64 J, .bool rt]] (by have c := Reg.consts a; generalize a.eval = ρ at *; simp [execOp, go_sem, c.1, c.2, d18, d19, d20]) ?_
      refine (HFI.out w1 hW).mono ?_
      rintro e w5 ⟨rfl, hb5⟩
      exact ⟨_, rfl, rfl, hW.trans (hb5.mono hW.size), fun j v _ hv => by
          revert hv
          match j with
          | 32 => exact fun h => h.on hb5
          | 36 => exact fun h => h.on hb5
          | 0 | 1 | 2 | 3 | 4 | 5 | 6 | 7 | 8 | 9 | 10 | 11 | 12 | 13 | 14 | 15 | 16 | 17 | 18 | 19 | 20 | 21 | 22 | 23 | 24 | 25 | 26 | 27 | 28 | 29 | 30 | 31 | 33 | 34 | 35 | 37 | 38 | 39 | _ + 40 => exact fun h => h⟩
    · intro a w1 live S E D C0 h0 hk hW
      have dg : a.eval (.tmp 36) = .bool false := D 17 rfl _ _ rfl rfl
      have e4 : a.eval (.tmp 4) = .pointer (some ⟨gc, 0, none⟩) := E 4 rfl
      have hc0 := (hW.cell (p := ⟨gc, 0, none⟩) (World.block_lt_of_cell? _ _ m0)).trans m0
      have hc1 := (hW.cell (p := ⟨gc, 1, none⟩) (World.block_lt_of_cell? _ _ m1)).trans m1
      have hc2 := (hW.cell (p := ⟨gc, 2, none⟩) (World.block_lt_of_cell? _ _ m2)).trans m2
      exact Rgs.val rfl (Reg.wanted_if rfl rfl dg rfl) (.agg #[.slice A1 n1 c1, .slice A2 n2 c2, .slice A3 n3 c3]) (by have c := Reg.consts a; generalize a.eval = ρ at *; simp [execOp, go_sem, c.1, c.2, e4, hc0, hc1, hc2]) rfl hW
    · intro a w1 live S E D C0 h0 hk hW
      have dg : a.eval (.tmp 36) = .bool false := D 17 rfl _ _ rfl rfl
      have e0 : a.eval (.tmp 0) = .slice A n c := E 0 rfl
      exact Rgs.val rfl (Reg.wanted_if rfl rfl dg rfl) (.slice A n c) (by have c := Reg.consts a; generalize a.eval = ρ at *; simp [execOp, go_sem, c.1, c.2, e0]) rfl hW
    · intro a w1 live S E D C0 h0 hk hW
      have dg : a.eval (.tmp 36) = .bool false := D 17 rfl _ _ rfl rfl
      have e5 : a.eval (.tmp 5) = .pointer (some ⟨gm, 0, none⟩) := E 5 rfl
      have hc0 := (hW.cell (p := ⟨gm, 0, none⟩) (World.block_lt_of_cell? _ _ f0)).trans f0
      have hc1 := (hW.cell (p := ⟨gm, 1, none⟩) (World.block_lt_of_cell? _ _ f1)).trans f1
      have hc2 := (hW.cell (p := ⟨gm, 2, none⟩) (World.block_lt_of_cell? _ _ f2)).trans f2
      exact Rgs.val rfl (Reg.wanted_if rfl rfl dg rfl) (.agg #[.int .i64 I, .int .i64 J, .bool rt]) (by have c := Reg.consts a; generalize a.eval = ρ at *; simp [execOp, go_sem, c.1, c.2, e5, hc0, hc1, hc2]) rfl hW
    · intro a w1 live S E D C0 h0 hk hW
      have dg : a.eval (.tmp 36) = .bool false := D 17 rfl _ _ rfl rfl
      have d24 : a.eval (.tmp 43) = .agg #[.int .i64 I, .int .i64 J, .bool rt] := D 24 rfl _ _ rfl rfl
      refine Rgs.call rfl (Reg.wanted_if rfl rfl dg rfl) 28 #[.agg #[.int .i64 I, .int .i64 J, .bool rt]] (by have c := Reg.consts a; generalize a.eval = ρ at *; simp [execOp, go_sem, c.1, c.2, d24]) ?_
      refine (to_any I J rt w1).mono ?_
      rintro e w5 ⟨rfl, hb5⟩
      exact ⟨_, rfl, rfl, hW.trans (hb5.mono hW.size), fun j v _ hv => by
          revert hv
          match j with
          | 32 => exact fun h => h.on hb5
          | 36 => exact fun h => h.on hb5
          | 0 | 1 | 2 | 3 | 4 | 5 | 6 | 7 | 8 | 9 | 10 | 11 | 12 | 13 | 14 | 15 | 16 | 17 | 18 | 19 | 20 | 21 | 22 | 23 | 24 | 25 | 26 | 27 | 28 | 29 | 30 | 31 | 33 | 34 | 35 | 37 | 38 | 39 | _ + 40 => exact fun h => h⟩
    · intro a w1 live S E D C0 h0 hk hW
      have dg : a.eval (.tmp 36) = .bool false := D 17 rfl _ _ rfl rfl
      have d22 : a.eval (.tmp 41) = .agg #[.slice A1 n1 c1, .slice A2 n2 c2, .slice A3 n3 c3] := D 22 rfl _ _ rfl rfl
      have d23 : a.eval (.tmp 42) = .slice A n c := D 23 rfl _ _ rfl rfl
      have d25 : a.eval (.tmp 44) = .agg #[.int .i64 I, .int .i64 J, .bool rt] := D 25 rfl _ _ rfl rfl
      refine Rgs.call rfl (Reg.wanted_if rfl rfl dg rfl) 30 #[.agg #[.slice A1 n1 c1, .slice A2 n2 c2, .slice A3 n3 c3], .slice A n c, .agg #[.int .i64 I, .int .i64 J, .bool rt]] (by have c := Reg.consts a; generalize a.eval = ρ at *; simp [execOp, go_sem, c.1, c.2, d22, d23, d25]) ?_
      refine (HRF.out w1 hW).mono ?_
      rintro e w5 ⟨rfl, hb5⟩
      exact ⟨_, rfl, rfl, hW.trans (hb5.mono hW.size), fun j v _ hv => by
          revert hv
          match j with
          | 32 => exact fun h => h.on hb5
          | 36 => exact fun h => h.on hb5
          | 0 | 1 | 2 | 3 | 4 | 5 | 6 | 7 | 8 | 9 | 10 | 11 | 12 | 13 | 14 | 15 | 16 | 17 | 18 | 19 | 20 | 21 | 22 | 23 | 24 | 25 | 26 | 27 | 28 | 29 | 30 | 31 | 33 | 34 | 35 | 37 | 38 | 39 | _ + 40 => exact fun h => h⟩
    · intro a w1 live S E D C0 h0 hk hW
      have dg : a.eval (.tmp 36) = .bool false := D 17 rfl _ _ rfl rfl
      have d21 : a.eval (.tmp 40) = .bool bf := D 21 rfl _ _ rfl rfl
      have d26 : a.eval (.tmp 45) = .bool bf := D 26 rfl _ _ rfl rfl
      exact Rgs.val rfl (Reg.wanted_if rfl rfl dg rfl) (.bool false) (by have c := Reg.consts a; generalize a.eval = ρ at *; simp [execOp, go_sem, c.1, c.2, d21, d26]) rfl hW
    · intro a w1 live S E D C0 h0 hk hW
      have d17 : a.eval (.tmp 36) = .bool false := D 17 rfl _ _ rfl rfl
      have d27 : a.eval (.tmp 46) = .bool false := D 27 rfl _ _ rfl rfl
      exact Rgs.val rfl (Reg.wanted_free rfl) (.bool false) (by have c := Reg.consts a; generalize a.eval = ρ at *; simp [execOp, go_sem, c.1, c.2, d17, d27]) rfl hW
    · intro a w1 live S E D C0 h0 hk hW
      have d28 : a.eval (.tmp 47) = .bool false := D 28 rfl _ _ rfl rfl
      exact Rgs.val rfl (Reg.wanted_free rfl) (.bool false) (by have c := Reg.consts a; generalize a.eval = ρ at *; simp [execOp, go_sem, c.1, c.2, d28]) rfl hW
    · intro a w1 live S E D C0 h0 hk hW
      have dg : a.eval (.tmp 48) = .bool false := D 29 rfl _ _ rfl rfl
      have e0 : a.eval (.tmp 0) = .slice A n c := E 0 rfl
      exact Rgs.val rfl (Reg.wanted_if rfl rfl dg rfl) (.slice A n c) (by have c := Reg.consts a; generalize a.eval = ρ at *; simp [execOp, go_sem, c.1, c.2, e0]) rfl hW
    · intro a w1 live S E D C0 h0 hk hW
      have dg : a.eval (.tmp 48) = .bool false := D 29 rfl _ _ rfl rfl
      have e5 : a.eval (.tmp 5) = .pointer (some ⟨gm, 0, none⟩) := E 5 rfl
      have hc0 := (hW.cell (p := ⟨gm, 0, none⟩) (World.block_lt_of_cell? _ _ f0)).trans f0
      have hc1 := (hW.cell (p := ⟨gm, 1, none⟩) (World.block_lt_of_cell? _ _ f1)).trans f1
      have hc2 := (hW.cell (p := ⟨gm, 2, none⟩) (World.block_lt_of_cell? _ _ f2)).trans f2
      exact Rgs.val rfl (Reg.wanted_if rfl rfl dg rfl) (.agg #[.int .i64 I, .int .i64 J, .bool rt]) (by have c := Reg.consts a; generalize a.eval = ρ at *; simp [execOp, go_sem, c.1, c.2, e5, hc0, hc1, hc2]) rfl hW
    · intro a w1 live S E D C0 h0 hk hW
      have dg : a.eval (.tmp 48) = .bool false := D 29 rfl _ _ rfl rfl
      have d30 : a.eval (.tmp 49) = .slice A n c := D 30 rfl _ _ rfl rfl
      have d31 : a.eval (.tmp 50) = .agg #[.int .i64 I, .int .i64 J, .bool rt] := D 31 rfl _ _ rfl rfl
      refine Rgs.call rfl (Reg.wanted_if rfl rfl dg rfl) 18 #[.slice A n c, .agg #[.int .i64 I, .int .i64 J, .bool rt]] (by have c := Reg.consts a; generalize a.eval = ρ at *; simp [execOp, go_sem, c.1, c.2, d30, d31]) ?_
      refine (HDO.out w1 hW).mono ?_
      rintro e w5 ⟨A9, c9, rfl, hr9, hc9, hb5⟩
      exact ⟨_, rfl, ⟨A9, c9, rfl, hc9, hr9⟩, hW.trans (hb5.mono hW.size), fun j v _ hv => by
          revert hv
          match j with
          | 32 => exact fun h => h.on hb5
          | 36 => exact fun h => h.on hb5
          | 0 | 1 | 2 | 3 | 4 | 5 | 6 | 7 | 8 | 9 | 10 | 11 | 12 | 13 | 14 | 15 | 16 | 17 | 18 | 19 | 20 | 21 | 22 | 23 | 24 | 25 | 26 | 27 | 28 | 29 | 30 | 31 | 33 | 34 | 35 | 37 | 38 | 39 | _ + 40 => exact fun h => h⟩
    · intro a w1 live S E D C0 h0 hk hW
      have dg : a.eval (.tmp 48) = .bool false := D 29 rfl _ _ rfl rfl
      have e0 : a.eval (.tmp 0) = .slice A n c := E 0 rfl
      exact Rgs.val rfl (Reg.wanted_if rfl rfl dg rfl) (.slice A n c) (by have c := Reg.consts a; generalize a.eval = ρ at *; simp [execOp, go_sem, c.1, c.2, e0]) rfl hW
    · intro a w1 live S E D C0 h0 hk hW
      have dg : a.eval (.tmp 48) = .bool false := D 29 rfl _ _ rfl rfl
      have e5 : a.eval (.tmp 5) = .pointer (some ⟨gm, 0, none⟩) := E 5 rfl
      have hc0 := (hW.cell (p := ⟨gm, 0, none⟩) (World.block_lt_of_cell? _ _ f0)).trans f0
      have hc1 := (hW.cell (p := ⟨gm, 1, none⟩) (World.block_lt_of_cell? _ _ f1)).trans f1
      have hc2 := (hW.cell (p := ⟨gm, 2, none⟩) (World.block_lt_of_cell? _ _ f2)).trans f2
      exact Rgs.val rfl (Reg.wanted_if rfl rfl dg rfl) (.agg #[.int .i64 I, .int .i64 J, .bool rt]) (by have c := Reg.consts a; generalize a.eval = ρ at *; simp [execOp, go_sem, c.1, c.2, e5, hc0, hc1, hc2]) rfl hW
    · intro a w1 live S E D C0 h0 hk hW
      have dg : a.eval (.tmp 48) = .bool false := D 29 rfl _ _ rfl rfl
      have d34 : a.eval (.tmp 53) = .agg #[.int .i64 I, .int .i64 J, .bool rt] := D 34 rfl _ _ rfl rfl
      refine Rgs.call rfl (Reg.wanted_if rfl rfl dg rfl) 28 #[.agg #[.int .i64 I, .int .i64 J, .bool rt]] (by have c := Reg.consts a; generalize a.eval = ρ at *; simp [execOp, go_sem, c.1, c.2, d34]) ?_
      refine (to_any I J rt w1).mono ?_
      rintro e w5 ⟨rfl, hb5⟩
      exact ⟨_, rfl, rfl, hW.trans (hb5.mono hW.size), fun j v _ hv => by
          revert hv
          match j with
          | 32 => exact fun h => h.on hb5
          | 36 => exact fun h => h.on hb5
          | 0 | 1 | 2 | 3 | 4 | 5 | 6 | 7 | 8 | 9 | 10 | 11 | 12 | 13 | 14 | 15 | 16 | 17 | 18 | 19 | 20 | 21 | 22 | 23 | 24 | 25 | 26 | 27 | 28 | 29 | 30 | 31 | 33 | 34 | 35 | 37 | 38 | 39 | _ + 40 => exact fun h => h⟩
    · intro a w1 live S E D C0 h0 hk hW
      have dg : a.eval (.tmp 48) = .bool false := D 29 rfl _ _ rfl rfl
      have d33 : a.eval (.tmp 52) = .slice A n c := D 33 rfl _ _ rfl rfl
      have d35 : a.eval (.tmp 54) = .agg #[.int .i64 I, .int .i64 J, .bool rt] := D 35 rfl _ _ rfl rfl
      refine Rgs.call rfl (Reg.wanted_if rfl rfl dg rfl) 32 #[.slice A n c, .agg #[.int .i64 I, .int .i64 J, .bool rt]] (by have c := Reg.consts a; generalize a.eval = ρ at *; simp [execOp, go_sem, c.1, c.2, d33, d35]) ?_
      refine (HRD.out w1 hW).mono ?_
      rintro e w5 ⟨A9, c9, rfl, hr9, hc9, hb5⟩
      exact ⟨_, rfl, ⟨A9, c9, rfl, hc9, hr9⟩, hW.trans (hb5.mono hW.size), fun j v _ hv => by
          revert hv
          match j with
          | 32 => exact fun h => h.on hb5
          | 36 => exact fun h => h.on hb5
          | 0 | 1 | 2 | 3 | 4 | 5 | 6 | 7 | 8 | 9 | 10 | 11 | 12 | 13 | 14 | 15 | 16 | 17 | 18 | 19 | 20 | 21 | 22 | 23 | 24 | 25 | 26 | 27 | 28 | 29 | 30 | 31 | 33 | 34 | 35 | 37 | 38 | 39 | _ + 40 => exact fun h => h⟩
    · intro a w1 live S E D C0 h0 hk hW
      have dg : a.eval (.tmp 48) = .bool false := D 29 rfl _ _ rfl rfl
      obtain ⟨A9, c9, d32, hc9, hr9⟩ : RowX R (a.eval (.tmp 51)) w1 := D 32 rfl _ _ rfl rfl
      obtain ⟨A8, c8, d36, hc8, hr8⟩ : RowX R (a.eval (.tmp 55)) w1 := D 36 rfl _ _ rfl rfl
      refine Rgs.call rfl (Reg.wanted_if rfl rfl dg rfl) 31 #[.slice A9 R.length c9, .slice A8 R.length c8] (by have c := Reg.consts a; generalize a.eval = ρ at *; simp [execOp, go_sem, c.1, c.2, d32, d36]) ?_
      refine (samx_self A9 A8 R.length c9 c8 R w1 hr9 hr8 HRL.out).mono ?_
      rintro e w5 ⟨rfl, hb5⟩
      exact ⟨_, rfl, rfl, hW.trans (hb5.mono hW.size), fun j v _ hv => by
          revert hv
          match j with
          | 32 => exact fun h => h.on hb5
          | 36 => exact fun h => h.on hb5
          | 0 | 1 | 2 | 3 | 4 | 5 | 6 | 7 | 8 | 9 | 10 | 11 | 12 | 13 | 14 | 15 | 16 | 17 | 18 | 19 | 20 | 21 | 22 | 23 | 24 | 25 | 26 | 27 | 28 | 29 | 30 | 31 | 33 | 34 | 35 | 37 | 38 | 39 | _ + 40 => exact fun h => h⟩
    · intro a w1 live S E D C0 h0 hk hW
      have dg : a.eval (.tmp 48) = .bool false := D 29 rfl _ _ rfl rfl
      have d37 : a.eval (.tmp 56) = .bool true := D 37 rfl _ _ rfl rfl
      exact Rgs.val rfl (Reg.wanted_if rfl rfl dg rfl) (.bool false) (by have c := Reg.consts a; generalize a.eval = ρ at *; simp [execOp, go_sem, c.1, c.2, d37]) rfl hW
    · intro a w1 live S E D C0 h0 hk hW
      have d29 : a.eval (.tmp 48) = .bool false := D 29 rfl _ _ rfl rfl
      have d38 : a.eval (.tmp 57) = .bool false := D 38 rfl _ _ rfl rfl
      exact Rgs.val rfl (Reg.wanted_free rfl) (.bool false) (by have c := Reg.consts a; generalize a.eval = ρ at *; simp [execOp, go_sem, c.1, c.2, d29, d38]) rfl hW
  · intro a w4 live hs hd E D Hl hW
    have e58 : a.eval (.tmp 58) = .bool false := by
      obtain ⟨v, hv, he⟩ := D 39 _ rfl
      exact (he 58 rfl).trans hv
    rw [Rgs.act_ws a _ _ hs hd E [19, 20, 21, 22, 23, 24, 25, 26, 27, 28, 29, 30, 31, 32, 33, 34, 35, 36, 37, 38, 39, 40, 41, 42, 43, 44, 45, 46, 47, 48, 49, 50, 51, 52, 53, 54, 55, 56, 57, 58] (by kernel_rfl)]
    simp only [List.foldl, List.setIfInBounds_toArray, List.set_cons_succ, List.set_cons_zero, e58]
    have HB9 := Lib.hid (HBB.out.trans (Below.mono hW HBB.out.size))
    have HWB := Lib.hid hW
    clear E D Hl hW e58 HMA HRM HFI HRF HDO HRD m0 m1 m2 f0 f1 f2
    generalize a.eval = ρ
    clear a hs hd
    go_wp2_with fail
    go_loopw [10, 61] (fun _ s wr => ∃ t : Nat, t ≤ Q.length ∧ s = .int .i64 t ∧ Below wb.heap.size wb wr) (fun _ s _ => Q.length - (intOf s).toNat)
    case atStart => exact ⟨0, by omega, rfl, HWB.out⟩
    case round =>
      obtain ⟨t, ht, rfl, hb⟩ := hrel
      have HB := Lib.hid hb
      clear hb HWB
      by_cases htl : t < Q.length
      · have htli : (t : Int) < (Q.length : Int) := by omega
        obtain ⟨am, x, rfl, ham, hx, d0, dk⟩ := (HO4'.out.on HB.out).at_ mcl_len (by omega) htl
        obtain ⟨an, y, rfl, han, hy, g0, gk⟩ := (HO5.out.on HB.out).at_ mcl_len (by omega) htl
        rw [hx] at hy
        injection hy with hy
        subst hy
        have e0 := d0 _ rfl
        have e1 := dk 1 _ (by omega) rfl
        have e2 := dk 2 _ (by omega) rfl
        have k0 := g0 _ rfl
        have k1 := gk 1 _ (by omega) rfl
        have k2 := gk 2 _ (by omega) rfl
        have hkx := HQK.out x (List.mem_of_getElem? hx)
        obtain ⟨i, j, r⟩ := x
        have HKX : Hid (ok (i : Int) (j : Int)) := Lib.hid hkx
        clear hkx
        dsimp only at e0 e1 e2 k0 k1 k2
        clear d0 dk g0 gk hx ham han
        have HBN := Lib.hid (HBB.out.trans (HB.out.mono HBB.out.size))
        obtain ⟨m0, m1, m2⟩ := (HBX5.out.on (HK8.out.trans (HB.out.mono HK8.out.size))).three
        have HFI := Lib.hid fun W (hb : Below wr.heap.size wr W) => CFI.out (i : Int) (j : Int) r HKX.out W (HB.out.trans (hb.mono HB.out.size))
        have HRF := Lib.hid fun W (hb : Below wr.heap.size wr W) => CRF.out (i : Int) (j : Int) r HKX.out W (HB.out.trans (hb.mono HB.out.size))
        have HDO := Lib.hid fun W (hb : Below wr.heap.size wr W) => CDO.out (i : Int) (j : Int) r HKX.out W (HB.out.trans (hb.mono HB.out.size))
        have HRD := Lib.hid fun W (hb : Below wr.heap.size wr W) => CRD.out (i : Int) (j : Int) r HKX.out W (HB.out.trans (hb.mono HB.out.size))
        have HRL : Hid ((RR (i : Int) (j : Int) r).length ≤ 1048576) := Lib.hid (HRR.out (i : Int) (j : Int) r HKX.out)
        generalize RR (i : Int) (j : Int) r = R2 at HDO HRD HRL
        generalize FF (i : Int) (j : Int) r = bf2 at HFI HRF
        have HLT : Hid ((t : Int) < (Q.length : Int) ∧ ¬ (t : Int) < 0 ∧ (0 : Int) ≤ (t : Int) ∧ ((t : Int)).toNat = t) := Lib.hid ⟨by omega, by omega, by omega, by omega⟩
        have hw1 : IntKind.i64.wrap ((t : Int) + 1) = (t : Int) + 1 := IntWalk.i64_in _ (by omega)
        by_cases h12 : (t : Int) < 12
        · have HTW : Hid (decide ((t : Int) < 12) = true) := Lib.hid (decide_eq_true h12)
          clear h12
          go_wp2_with fail
          refine Rgs.region (by kernel_rfl) (by kernel_rfl) (fun (opn : Nat) (vl : Value) (wo : World) => match opn with | 0 => vl = .slice (some am) Q.length c4 | 1 => vl = .int .i64 (t : Int) | 2 => vl = .pointer (some (am.add (t * 3))) | 3 => vl = .agg #[.int .i64 (i : Int), .int .i64 (j : Int), .bool r] | 4 => vl = .agg #[.int .i64 (i : Int), .int .i64 (j : Int), .bool r] | 5 => vl = .slice (some an) Q.length c5 | 6 => vl = .int .i64 (t : Int) | 7 => vl = .pointer (some (an.add (t * 3))) | 8 => vl = .agg #[.int .i64 (i : Int), .int .i64 (j : Int), .bool r] | 9 => vl = .bool false | 10 => vl = .bool false | 11 => vl = .int .i64 (t : Int) | 12 => vl = .bool true | 13 => vl = .bool true | 14 => vl = .slice A n c | 15 => vl = .slice (some am) Q.length c4 | 16 => vl = .int .i64 (t : Int) | 17 => vl = .pointer (some (am.add (t * 3))) | 18 => vl = .agg #[.int .i64 (i : Int), .int .i64 (j : Int), .bool r] | 19 => RowX R2 vl wo | 20 => vl = .slice A n c | 21 => vl = .slice (some an) Q.length c5 | 22 => vl = .int .i64 (t : Int) | 23 => vl = .pointer (some (an.add (t * 3))) | 24 => vl = .agg #[.int .i64 (i : Int), .int .i64 (j : Int), .bool r] | 25 => RowX R2 vl wo | 26 => vl = .bool true | 27 => vl = .bool false | 28 => vl = .bool false | 29 => vl = .agg #[.slice A1 n1 c1, .slice A2 n2 c2, .slice A3 n3 c3] | 30 => vl = .slice A n c | 31 => vl = .slice (some am) Q.length c4 | 32 => vl = .int .i64 (t : Int) | 33 => vl = .pointer (some (am.add (t * 3))) | 34 => vl = .agg #[.int .i64 (i : Int), .int .i64 (j : Int), .bool r] | 35 => vl = .bool bf2 | 36 => vl = .agg #[.slice A1 n1 c1, .slice A2 n2 c2, .slice A3 n3 c3] | 37 => vl = .slice A n c | 38 => vl = .slice (some an) Q.length c5 | 39 => vl = .int .i64 (t : Int) | 40 => vl = .pointer (some (an.add (t * 3))) | 41 => vl = .agg #[.int .i64 (i : Int), .int .i64 (j : Int), .bool r] | 42 => vl = .bool bf2 | 43 => vl = .bool false | 44 => vl = .bool false | 45 => vl = .bool false | 46 => vl = .bool false | _ => True) (fun _ _ w' => Below wr.heap.size wr w') (Below.refl _ _).drew (Rgs.steps_of ?_) ?_
          · refine ⟨?_, ?_, ?_, ?_, ?_, ?_, ?_, ?_, ?_, ?_, ?_, ?_, ?_, ?_, ?_, ?_, ?_, ?_, ?_, ?_, ?_, ?_, ?_, ?_, ?_, ?_, ?_, ?_, ?_, ?_, ?_, ?_, ?_, ?_, ?_, ?_, ?_, ?_, ?_, ?_, ?_, ?_, ?_, ?_, ?_, ?_, ?_, trivial⟩
            · intro a w1 live S E D C0 h0 hk hW
              have e108 : a.eval (.tmp 8) = .slice (some am) Q.length c4 := E 8 rfl
              exact Rgs.val rfl (Reg.wanted_free rfl) (.slice (some am) Q.length c4) (by have c := Reg.consts a; generalize a.eval = ρ at *; simp [execOp, go_sem, c.1, c.2, e108]) rfl hW
            · intro a w1 live S E D C0 h0 hk hW
              have e110 : a.eval (.tmp 10) = .int .i64 (t : Int) := E 10 rfl
              exact Rgs.val rfl (Reg.wanted_free rfl) (.int .i64 (t : Int)) (by have c := Reg.consts a; generalize a.eval = ρ at *; simp [execOp, go_sem, c.1, c.2, e110]) rfl hW
            · intro a w1 live S E D C0 h0 hk hW
              have d0 : a.eval (.tmp 64) = .slice (some am) Q.length c4 := D 0 rfl _ _ rfl rfl
              have d1 : a.eval (.tmp 65) = .int .i64 (t : Int) := D 1 rfl _ _ rfl rfl
              have i1 := HLT.out
              obtain ⟨i1, i2, i3, i4⟩ := i1
              exact Rgs.val rfl (Reg.wanted_free rfl) (.pointer (some (am.add (t * 3)))) (by have c := Reg.consts a; generalize a.eval = ρ at *; simp [execOp, go_sem, c.1, c.2, d0, d1, i1, i2, i3, i4]) rfl hW
            · intro a w1 live S E D C0 h0 hk hW
              have d2 : a.eval (.tmp 66) = .pointer (some (am.add (t * 3))) := D 2 rfl _ _ rfl rfl
              have hc0 := (hW.cell (p := _) (World.block_lt_of_cell? _ _ e0)).trans e0
              have hc1 := (hW.cell (p := _) (World.block_lt_of_cell? _ _ e1)).trans e1
              have hc2 := (hW.cell (p := _) (World.block_lt_of_cell? _ _ e2)).trans e2
              exact Rgs.val rfl (Reg.wanted_free rfl) (.agg #[.int .i64 (i : Int), .int .i64 (j : Int), .bool r]) (by have c := Reg.consts a; generalize a.eval = ρ at *; simp [execOp, go_sem, c.1, c.2, d2, hc0, hc1, hc2]) rfl hW
            · intro a w1 live S E D C0 h0 hk hW
              have d3 : a.eval (.tmp 67) = .agg #[.int .i64 (i : Int), .int .i64 (j : Int), .bool r] := D 3 rfl _ _ rfl rfl
              refine Rgs.call rfl (Reg.wanted_free rfl) 28 #[.agg #[.int .i64 (i : Int), .int .i64 (j : Int), .bool r]] (by have c := Reg.consts a; generalize a.eval = ρ at *; simp [execOp, go_sem, c.1, c.2, d3]) ?_
              refine (to_any (i : Int) (j : Int) r w1).mono ?_
              rintro e w5 ⟨rfl, hb5⟩
              exact ⟨_, rfl, rfl, hW.trans (hb5.mono hW.size), fun j v _ hv => by
                  revert hv
                  match j with
                  | 19 => exact fun h => h.on hb5
                  | 25 => exact fun h => h.on hb5
                  | 0 | 1 | 2 | 3 | 4 | 5 | 6 | 7 | 8 | 9 | 10 | 11 | 12 | 13 | 14 | 15 | 16 | 17 | 18 | 20 | 21 | 22 | 23 | 24 | 26 | 27 | 28 | 29 | 30 | 31 | 32 | 33 | 34 | 35 | 36 | 37 | 38 | 39 | 40 | 41 | 42 | 43 | 44 | 45 | 46 | _ + 47 => exact fun h => h⟩
            · intro a w1 live S E D C0 h0 hk hW
              have e109 : a.eval (.tmp 9) = .slice (some an) Q.length c5 := E 9 rfl
              exact Rgs.val rfl (Reg.wanted_free rfl) (.slice (some an) Q.length c5) (by have c := Reg.consts a; generalize a.eval = ρ at *; simp [execOp, go_sem, c.1, c.2, e109]) rfl hW
            · intro a w1 live S E D C0 h0 hk hW
              have e110 : a.eval (.tmp 10) = .int .i64 (t : Int) := E 10 rfl
              exact Rgs.val rfl (Reg.wanted_free rfl) (.int .i64 (t : Int)) (by have c := Reg.consts a; generalize a.eval = ρ at *; simp [execOp, go_sem, c.1, c.2, e110]) rfl hW
            · intro a w1 live S E D C0 h0 hk hW
              have d5 : a.eval (.tmp 69) = .slice (some an) Q.length c5 := D 5 rfl _ _ rfl rfl
              have d6 : a.eval (.tmp 70) = .int .i64 (t : Int) := D 6 rfl _ _ rfl rfl
              have i1 := HLT.out
              obtain ⟨i1, i2, i3, i4⟩ := i1
              exact Rgs.val rfl (Reg.wanted_free rfl) (.pointer (some (an.add (t * 3)))) (by have c := Reg.consts a; generalize a.eval = ρ at *; simp [execOp, go_sem, c.1, c.2, d5, d6, i1, i2, i3, i4]) rfl hW
            · intro a w1 live S E D C0 h0 hk hW
              have d7 : a.eval (.tmp 71) = .pointer (some (an.add (t * 3))) := D 7 rfl _ _ rfl rfl
              have hc0 := (hW.cell (p := _) (World.block_lt_of_cell? _ _ k0)).trans k0
              have hc1 := (hW.cell (p := _) (World.block_lt_of_cell? _ _ k1)).trans k1
              have hc2 := (hW.cell (p := _) (World.block_lt_of_cell? _ _ k2)).trans k2
              exact Rgs.val rfl (Reg.wanted_free rfl) (.agg #[.int .i64 (i : Int), .int .i64 (j : Int), .bool r]) (by have c := Reg.consts a; generalize a.eval = ρ at *; simp [execOp, go_sem, c.1, c.2, d7, hc0, hc1, hc2]) rfl hW
            · intro a w1 live S E D C0 h0 hk hW
              have d4 : a.eval (.tmp 68) = .agg #[.int .i64 (i : Int), .int .i64 (j : Int), .bool r] := D 4 rfl _ _ rfl rfl
              have d8 : a.eval (.tmp 72) = .agg #[.int .i64 (i : Int), .int .i64 (j : Int), .bool r] := D 8 rfl _ _ rfl rfl
              exact Rgs.val rfl (Reg.wanted_free rfl) (.bool false) (by have c := Reg.consts a; generalize a.eval = ρ at *; simp [execOp, go_sem, c.1, c.2, d4, d8]) rfl hW
            · intro a w1 live S E D C0 h0 hk hW
              have d9 : a.eval (.tmp 73) = .bool false := D 9 rfl _ _ rfl rfl
              exact Rgs.val rfl (Reg.wanted_free rfl) (.bool false) (by have c := Reg.consts a; generalize a.eval = ρ at *; simp [execOp, go_sem, c.1, c.2, d9]) rfl hW
            · intro a w1 live S E D C0 h0 hk hW
              have dg : a.eval (.tmp 74) = .bool false := D 10 rfl _ _ rfl rfl
              have e110 : a.eval (.tmp 10) = .int .i64 (t : Int) := E 10 rfl
              exact Rgs.val rfl (Reg.wanted_if rfl rfl dg rfl) (.int .i64 (t : Int)) (by have c := Reg.consts a; generalize a.eval = ρ at *; simp [execOp, go_sem, c.1, c.2, e110]) rfl hW
            · intro a w1 live S E D C0 h0 hk hW
              have dg : a.eval (.tmp 74) = .bool false := D 10 rfl _ _ rfl rfl
              have d11 : a.eval (.tmp 75) = .int .i64 (t : Int) := D 11 rfl _ _ rfl rfl
              have hh := HTW.out
              exact Rgs.val rfl (Reg.wanted_if rfl rfl dg rfl) (.bool true) (by have c := Reg.consts a; generalize a.eval = ρ at *; simp [execOp, go_sem, c.1, c.2, d11, hh]) rfl hW
            · intro a w1 live S E D C0 h0 hk hW
              have dg : a.eval (.tmp 74) = .bool false := D 10 rfl _ _ rfl rfl
              have d12 : a.eval (.tmp 76) = .bool true := D 12 rfl _ _ rfl rfl
              exact Rgs.val rfl (Reg.wanted_if rfl rfl dg rfl) (.bool true) (by have c := Reg.consts a; generalize a.eval = ρ at *; simp [execOp, go_sem, c.1, c.2, d12]) rfl hW
            · intro a w1 live S E D C0 h0 hk hW
              have dg : a.eval (.tmp 77) = .bool true := D 13 rfl _ _ rfl rfl
              have e100 : a.eval (.tmp 0) = .slice A n c := E 0 rfl
              exact Rgs.val rfl (Reg.wanted_if rfl rfl dg rfl) (.slice A n c) (by have c := Reg.consts a; generalize a.eval = ρ at *; simp [execOp, go_sem, c.1, c.2, e100]) rfl hW
            · intro a w1 live S E D C0 h0 hk hW
              have dg : a.eval (.tmp 77) = .bool true := D 13 rfl _ _ rfl rfl
              have e108 : a.eval (.tmp 8) = .slice (some am) Q.length c4 := E 8 rfl
              exact Rgs.val rfl (Reg.wanted_if rfl rfl dg rfl) (.slice (some am) Q.length c4) (by have c := Reg.consts a; generalize a.eval = ρ at *; simp [execOp, go_sem, c.1, c.2, e108]) rfl hW
            · intro a w1 live S E D C0 h0 hk hW
              have dg : a.eval (.tmp 77) = .bool true := D 13 rfl _ _ rfl rfl
              have e110 : a.eval (.tmp 10) = .int .i64 (t : Int) := E 10 rfl
              exact Rgs.val rfl (Reg.wanted_if rfl rfl dg rfl) (.int .i64 (t : Int)) (by have c := Reg.consts a; generalize a.eval = ρ at *; simp [execOp, go_sem, c.1, c.2, e110]) rfl hW
            · intro a w1 live S E D C0 h0 hk hW
              have dg : a.eval (.tmp 77) = .bool true := D 13 rfl _ _ rfl rfl
              have d15 : a.eval (.tmp 79) = .slice (some am) Q.length c4 := D 15 rfl _ _ rfl rfl
              have d16 : a.eval (.tmp 80) = .int .i64 (t : Int) := D 16 rfl _ _ rfl rfl
              have i1 := HLT.out
              obtain ⟨i1, i2, i3, i4⟩ := i1
              exact Rgs.val rfl (Reg.wanted_if rfl rfl dg rfl) (.pointer (some (am.add (t * 3)))) (by have c := Reg.consts a; generalize a.eval = ρ at *; simp [execOp, go_sem, c.1, c.2, d15, d16, i1, i2, i3, i4]) rfl hW
            · intro a w1 live S E D C0 h0 hk hW
              have dg : a.eval (.tmp 77) = .bool true := D 13 rfl _ _ rfl rfl
              have d17 : a.eval (.tmp 81) = .pointer (some (am.add (t * 3))) := D 17 rfl _ _ rfl rfl
              have hc0 := (hW.cell (p := _) (World.block_lt_of_cell? _ _ e0)).trans e0
              have hc1 := (hW.cell (p := _) (World.block_lt_of_cell? _ _ e1)).trans e1
              have hc2 := (hW.cell (p := _) (World.block_lt_of_cell? _ _ e2)).trans e2
              exact Rgs.val rfl (Reg.wanted_if rfl rfl dg rfl) (.agg #[.int .i64 (i : Int), .int .i64 (j : Int), .bool r]) (by have c := Reg.consts a; generalize a.eval = ρ at *; simp [execOp, go_sem, c.1, c.2, d17, hc0, hc1, hc2]) rfl hW
            · intro a w1 live S E D C0 h0 hk hW
              have dg : a.eval (.tmp 77) = .bool true := D 13 rfl _ _ rfl rfl
              have d14 : a.eval (.tmp 78) = .slice A n c := D 14 rfl _ _ rfl rfl
              have d18 : a.eval (.tmp 82) = .agg #[.int .i64 (i : Int), .int .i64 (j : Int), .bool r] := D 18 rfl _ _ rfl rfl
              refine Rgs.call rfl (Reg.wanted_if rfl rfl dg rfl) 18 #[.slice A n c, .agg #[.int .i64 (i : Int), .int .i64 (j : Int), .bool r]] (by have c := Reg.consts a; generalize a.eval = ρ at *; simp [execOp, go_sem, c.1, c.2, d14, d18]) ?_
              refine (HDO.out w1 hW).mono ?_
              rintro e w5 ⟨A9, c9, rfl, hr9, hc9, hb5⟩
              exact ⟨_, rfl, ⟨A9, c9, rfl, hc9, hr9⟩, hW.trans (hb5.mono hW.size), fun j v _ hv => by
                  revert hv
                  match j with
                  | 19 => exact fun h => h.on hb5
                  | 25 => exact fun h => h.on hb5
                  | 0 | 1 | 2 | 3 | 4 | 5 | 6 | 7 | 8 | 9 | 10 | 11 | 12 | 13 | 14 | 15 | 16 | 17 | 18 | 20 | 21 | 22 | 23 | 24 | 26 | 27 | 28 | 29 | 30 | 31 | 32 | 33 | 34 | 35 | 36 | 37 | 38 | 39 | 40 | 41 | 42 | 43 | 44 | 45 | 46 | _ + 47 => exact fun h => h⟩
            · intro a w1 live S E D C0 h0 hk hW
              have dg : a.eval (.tmp 77) = .bool true := D 13 rfl _ _ rfl rfl
              have e100 : a.eval (.tmp 0) = .slice A n c := E 0 rfl
              exact Rgs.val rfl (Reg.wanted_if rfl rfl dg rfl) (.slice A n c) (by have c := Reg.consts a; generalize a.eval = ρ at *; simp [execOp, go_sem, c.1, c.2, e100]) rfl hW
            · intro a w1 live S E D C0 h0 hk hW
              have dg : a.eval (.tmp 77) = .bool true := D 13 rfl _ _ rfl rfl
              have e109 : a.eval (.tmp 9) = .slice (some an) Q.length c5 := E 9 rfl
              exact Rgs.val rfl (Reg.wanted_if rfl rfl dg rfl) (.slice (some an) Q.length c5) (by have c := Reg.consts a; generalize a.eval = ρ at *; simp [execOp, go_sem, c.1, c.2, e109]) rfl hW
            · intro a w1 live S E D C0 h0 hk hW
              have dg : a.eval (.tmp 77) = .bool true := D 13 rfl _ _ rfl rfl
              have e110 : a.eval (.tmp 10) = .int .i64 (t : Int) := E 10 rfl
              exact Rgs.val rfl (Reg.wanted_if rfl rfl dg rfl) (.int .i64 (t : Int)) (by have c := Reg.consts a; generalize a.eval = ρ at *; simp [execOp, go_sem, c.1, c.2, e110]) rfl hW
            · intro a w1 live S E D C0 h0 hk hW
              have dg : a.eval (.tmp 77) = .bool true := D 13 rfl _ _ rfl rfl
              have d21 : a.eval (.tmp 85) = .slice (some an) Q.length c5 := D 21 rfl _ _ rfl rfl
              have d22 : a.eval (.tmp 86) = .int .i64 (t : Int) := D 22 rfl _ _ rfl rfl
              have i1 := HLT.out
              obtain ⟨i1, i2, i3, i4⟩ := i1
              exact Rgs.val rfl (Reg.wanted_if rfl rfl dg rfl) (.pointer (some (an.add (t * 3)))) (by have c := Reg.consts a; generalize a.eval = ρ at *; simp [execOp, go_sem, c.1, c.2, d21, d22, i1, i2, i3, i4]) rfl hW
            · intro a w1 live S E D C0 h0 hk hW
              have dg : a.eval (.tmp 77) = .bool true := D 13 rfl _ _ rfl rfl
              have d23 : a.eval (.tmp 87) = .pointer (some (an.add (t * 3))) := D 23 rfl _ _ rfl rfl
              have hc0 := (hW.cell (p := _) (World.block_lt_of_cell? _ _ k0)).trans k0
              have hc1 := (hW.cell (p := _) (World.block_lt_of_cell? _ _ k1)).trans k1
              have hc2 := (hW.cell (p := _) (World.block_lt_of_cell? _ _ k2)).trans k2
              exact Rgs.val rfl (Reg.wanted_if rfl rfl dg rfl) (.agg #[.int .i64 (i : Int), .int .i64 (j : Int), .bool r]) (by have c := Reg.consts a; generalize a.eval = ρ at *; simp [execOp, go_sem, c.1, c.2, d23, hc0, hc1, hc2]) rfl hW
            · intro a w1 live S E D C0 h0 hk hW
              have dg : a.eval (.tmp 77) = .bool true := D 13 rfl _ _ rfl rfl
              have d20 : a.eval (.tmp 84) = .slice A n c := D 20 rfl _ _ rfl rfl
              have d24 : a.eval (.tmp 88) = .agg #[.int .i64 (i : Int), .int .i64 (j : Int), .bool r] := D 24 rfl _ _ rfl rfl
              refine Rgs.call rfl (Reg.wanted_if rfl rfl dg rfl) 32 #[.slice A n c, .agg #[.int .i64 (i : Int), .int .i64 (j : Int), .bool r]] (by have c := Reg.consts a; generalize a.eval = ρ at *; simp [execOp, go_sem, c.1, c.2, d20, d24]) ?_
              refine (HRD.out w1 hW).mono ?_
              rintro e w5 ⟨A9, c9, rfl, hr9, hc9, hb5⟩
              exact ⟨_, rfl, ⟨A9, c9, rfl, hc9, hr9⟩, hW.trans (hb5.mono hW.size), fun j v _ hv => by
                  revert hv
                  match j with
                  | 19 => exact fun h => h.on hb5
                  | 25 => exact fun h => h.on hb5
                  | 0 | 1 | 2 | 3 | 4 | 5 | 6 | 7 | 8 | 9 | 10 | 11 | 12 | 13 | 14 | 15 | 16 | 17 | 18 | 20 | 21 | 22 | 23 | 24 | 26 | 27 | 28 | 29 | 30 | 31 | 32 | 33 | 34 | 35 | 36 | 37 | 38 | 39 | 40 | 41 | 42 | 43 | 44 | 45 | 46 | _ + 47 => exact fun h => h⟩
            · intro a w1 live S E D C0 h0 hk hW
              have dg : a.eval (.tmp 77) = .bool true := D 13 rfl _ _ rfl rfl
              obtain ⟨A9, c9, d19, hc9, hr9⟩ : RowX R2 (a.eval (.tmp 83)) w1 := D 19 rfl _ _ rfl rfl
              obtain ⟨A8, c8, d25, hc8, hr8⟩ : RowX R2 (a.eval (.tmp 89)) w1 := D 25 rfl _ _ rfl rfl
              refine Rgs.call rfl (Reg.wanted_if rfl rfl dg rfl) 31 #[.slice A9 R2.length c9, .slice A8 R2.length c8] (by have c := Reg.consts a; generalize a.eval = ρ at *; simp [execOp, go_sem, c.1, c.2, d19, d25]) ?_
              refine (samx_self A9 A8 R2.length c9 c8 R2 w1 hr9 hr8 HRL.out).mono ?_
              rintro e w5 ⟨rfl, hb5⟩
              exact ⟨_, rfl, rfl, hW.trans (hb5.mono hW.size), fun j v _ hv => by
                  revert hv
                  match j with
                  | 19 => exact fun h => h.on hb5
                  | 25 => exact fun h => h.on hb5
                  | 0 | 1 | 2 | 3 | 4 | 5 | 6 | 7 | 8 | 9 | 10 | 11 | 12 | 13 | 14 | 15 | 16 | 17 | 18 | 20 | 21 | 22 | 23 | 24 | 26 | 27 | 28 | 29 | 30 | 31 | 32 | 33 | 34 | 35 | 36 | 37 | 38 | 39 | 40 | 41 | 42 | 43 | 44 | 45 | 46 | _ + 47 => exact fun h => h⟩
            · intro a w1 live S E D C0 h0 hk hW
              have dg : a.eval (.tmp 77) = .bool true := D 13 rfl _ _ rfl rfl
              have d26 : a.eval (.tmp 90) = .bool true := D 26 rfl _ _ rfl rfl
              exact Rgs.val rfl (Reg.wanted_if rfl rfl dg rfl) (.bool false) (by have c := Reg.consts a; generalize a.eval = ρ at *; simp [execOp, go_sem, c.1, c.2, d26]) rfl hW
            · intro a w1 live S E D C0 h0 hk hW
              have dg : a.eval (.tmp 77) = .bool true := D 13 rfl _ _ rfl rfl
              have d27 : a.eval (.tmp 91) = .bool false := D 27 rfl _ _ rfl rfl
              exact Rgs.val rfl (Reg.wanted_if rfl rfl dg rfl) (.bool false) (by have c := Reg.consts a; generalize a.eval = ρ at *; simp [execOp, go_sem, c.1, c.2, d27]) rfl hW
            · intro a w1 live S E D C0 h0 hk hW
              have dg : a.eval (.tmp 92) = .bool false := D 28 rfl _ _ rfl rfl
              have e104 : a.eval (.tmp 4) = .pointer (some ⟨gc, 0, none⟩) := E 4 rfl
              have hc0 := (hW.cell (p := ⟨gc, 0, none⟩) (World.block_lt_of_cell? _ _ m0)).trans m0
              have hc1 := (hW.cell (p := ⟨gc, 1, none⟩) (World.block_lt_of_cell? _ _ m1)).trans m1
              have hc2 := (hW.cell (p := ⟨gc, 2, none⟩) (World.block_lt_of_cell? _ _ m2)).trans m2
              exact Rgs.val rfl (Reg.wanted_if rfl rfl dg rfl) (.agg #[.slice A1 n1 c1, .slice A2 n2 c2, .slice A3 n3 c3]) (by have c := Reg.consts a; generalize a.eval = ρ at *; simp [execOp, go_sem, c.1, c.2, e104, hc0, hc1, hc2]) rfl hW
            · intro a w1 live S E D C0 h0 hk hW
              have dg : a.eval (.tmp 92) = .bool false := D 28 rfl _ _ rfl rfl
              have e100 : a.eval (.tmp 0) = .slice A n c := E 0 rfl
              exact Rgs.val rfl (Reg.wanted_if rfl rfl dg rfl) (.slice A n c) (by have c := Reg.consts a; generalize a.eval = ρ at *; simp [execOp, go_sem, c.1, c.2, e100]) rfl hW
            · intro a w1 live S E D C0 h0 hk hW
              have dg : a.eval (.tmp 92) = .bool false := D 28 rfl _ _ rfl rfl
              have e108 : a.eval (.tmp 8) = .slice (some am) Q.length c4 := E 8 rfl
              exact Rgs.val rfl (Reg.wanted_if rfl rfl dg rfl) (.slice (some am) Q.length c4) (by have c := Reg.consts a; generalize a.eval = ρ at *; simp [execOp, go_sem, c.1, c.2, e108]) rfl hW
            · intro a w1 live S E D C0 h0 hk hW
              have dg : a.eval (.tmp 92) = .bool false := D 28 rfl _ _ rfl rfl
              have e110 : a.eval (.tmp 10) = .int .i64 (t : Int) := E 10 rfl
              exact Rgs.val rfl (Reg.wanted_if rfl rfl dg rfl) (.int .i64 (t : Int)) (by have c := Reg.consts a; generalize a.eval = ρ at *; simp [execOp, go_sem, c.1, c.2, e110]) rfl hW
            · intro a w1 live S E D C0 h0 hk hW
              have dg : a.eval (.tmp 92) = .bool false := D 28 rfl _ _ rfl rfl
              have d31 : a.eval (.tmp 95) = .slice (some am) Q.length c4 := D 31 rfl _ _ rfl rfl
              have d32 : a.eval (.tmp 96) = .int .i64 (t : Int) := D 32 rfl _ _ rfl rfl
              have i1 := HLT.out
              obtain ⟨i1, i2, i3, i4⟩ := i1
              exact Rgs.val rfl (Reg.wanted_if rfl rfl dg rfl) (.pointer (some (am.add (t * 3)))) (by have c := Reg.consts a; generalize a.eval = ρ at *; simp [execOp, go_sem, c.1, c.2, d31, d32, i1, i2, i3, i4]) rfl hW
            · intro a w1 live S E D C0 h0 hk hW
              have dg : a.eval (.tmp 92) = .bool false := D 28 rfl _ _ rfl rfl
              have d33 : a.eval (.tmp 97) = .pointer (some (am.add (t * 3))) := D 33 rfl _ _ rfl rfl
              have hc0 := (hW.cell (p := _) (World.block_lt_of_cell? _ _ e0)).trans e0
              have hc1 := (hW.cell (p := _) (World.block_lt_of_cell? _ _ e1)).trans e1
              have hc2 := (hW.cell (p := _) (World.block_lt_of_cell? _ _ e2)).trans e2
              exact Rgs.val rfl (Reg.wanted_if rfl rfl dg rfl) (.agg #[.int .i64 (i : Int), .int .i64 (j : Int), .bool r]) (by have c := Reg.consts a; generalize a.eval = ρ at *; simp [execOp, go_sem, c.1, c.2, d33, hc0, hc1, hc2]) rfl hW
            · intro a w1 live S E D C0 h0 hk hW
              have dg : a.eval (.tmp 92) = .bool false := D 28 rfl _ _ rfl rfl
              have d29 : a.eval (.tmp 93) = .agg #[.slice A1 n1 c1, .slice A2 n2 c2, .slice A3 n3 c3] := D 29 rfl _ _ rfl rfl
              have d30 : a.eval (.tmp 94) = .slice A n c := D 30 rfl _ _ rfl rfl
              have d34 : a.eval (.tmp 98) = .agg #[.int .i64 (i : Int), .int .i64 (j : Int), .bool r] := D 34 rfl _ _ rfl rfl
              refine Rgs.call rfl (Reg.wanted_if rfl rfl dg rfl) 29 #[.agg #[.slice A1 n1 c1, .slice A2 n2 c2, .slice A3 n3 c3], .slice A n c, .agg #[.int .i64 (i : Int), .int .i64 (j : Int), .bool r]] (by have c := Reg.consts a; generalize a.eval = ρ at *; simp [execOp, go_sem, c.1, c.2, d29, d30, d34]) ?_
              refine (HFI.out w1 hW).mono ?_
              rintro e w5 ⟨rfl, hb5⟩
              exact ⟨_, rfl, rfl, hW.trans (hb5.mono hW.size), fun j v _ hv => by
                  revert hv
                  match j with
                  | 19 => exact fun h => h.on hb5
                  | 25 => exact fun h => h.on hb5
                  | 0 | 1 | 2 | 3 | 4 | 5 | 6 | 7 | 8 | 9 | 10 | 11 | 12 | 13 | 14 | 15 | 16 | 17 | 18 | 20 | 21 | 22 | 23 | 24 | 26 | 27 | 28 | 29 | 30 | 31 | 32 | 33 | 34 | 35 | 36 | 37 | 38 | 39 | 40 | 41 | 42 | 43 | 44 | 45 | 46 | _ + 47 => exact fun h => h⟩
            · intro a w1 live S E D C0 h0 hk hW
              have dg : a.eval (.tmp 92) = .bool false := D 28 rfl _ _ rfl rfl
              have e104 : a.eval (.tmp 4) = .pointer (some ⟨gc, 0, none⟩) := E 4 rfl
              have hc0 := (hW.cell (p := ⟨gc, 0, none⟩) (World.block_lt_of_cell? _ _ m0)).trans m0
              have hc1 := (hW.cell (p := ⟨gc, 1, none⟩) (World.block_lt_of_cell? _ _ m1)).trans m1
              have hc2 := (hW.cell (p := ⟨gc, 2, none⟩) (World.block_lt_of_cell? _ _ m2)).trans m2
              exact Rgs.val rfl (Reg.wanted_if rfl rfl dg rfl) (.agg #[.slice A1 n1 c1, .slice A2 n2 c2, .slice A3 n3 c3]) (by have c := Reg.consts a; generalize a.eval = ρ at *; simp [execOp, go_sem, c.1, c.2, e104, hc0, hc1, hc2]) rfl hW
            · intro a w1 live S E D C0 h0 hk hW
              have dg : a.eval (.tmp 92) = .bool false := D 28 rfl _ _ rfl rfl
              have e100 : a.eval (.tmp 0) = .slice A n c := E 0 rfl
              exact Rgs.val rfl (Reg.wanted_if rfl rfl dg rfl) (.slice A n c) (by have c := Reg.consts a; generalize a.eval = ρ at *; simp [execOp, go_sem, c.1, c.2, e100]) rfl hW
            · intro a w1 live S E D C0 h0 hk hW
              have dg : a.eval (.tmp 92) = .bool false := D 28 rfl _ _ rfl rfl
              have e109 : a.eval (.tmp 9) = .slice (some an) Q.length c5 := E 9 rfl
              exact Rgs.val rfl (Reg.wanted_if rfl rfl dg rfl) (.slice (some an) Q.length c5) (by have c := Reg.consts a; generalize a.eval = ρ at *; simp [execOp, go_sem, c.1, c.2, e109]) rfl hW
            · intro a w1 live S E D C0 h0 hk hW
              have dg : a.eval (.tmp 92) = .bool false := D 28 rfl _ _ rfl rfl
              have e110 : a.eval (.tmp 10) = .int .i64 (t : Int) := E 10 rfl
              exact Rgs.val rfl (Reg.wanted_if rfl rfl dg rfl) (.int .i64 (t : Int)) (by have c := Reg.consts a; generalize a.eval = ρ at *; simp [execOp, go_sem, c.1, c.2, e110]) rfl hW
            · intro a w1 live S E D C0 h0 hk hW
              have dg : a.eval (.tmp 92) = .bool false := D 28 rfl _ _ rfl rfl
              have d38 : a.eval (.tmp 102) = .slice (some an) Q.length c5 := D 38 rfl _ _ rfl rfl
              have d39 : a.eval (.tmp 103) = .int .i64 (t : Int) := D 39 rfl _ _ rfl rfl
              have i1 := HLT.out
              obtain ⟨i1, i2, i3, i4⟩ := i1
              exact Rgs.val rfl (Reg.wanted_if rfl rfl dg rfl) (.pointer (some (an.add (t * 3)))) (by have c := Reg.consts a; generalize a.eval = ρ at *; simp [execOp, go_sem, c.1, c.2, d38, d39, i1, i2, i3, i4]) rfl hW
            · intro a w1 live S E D C0 h0 hk hW
              have dg : a.eval (.tmp 92) = .bool false := D 28 rfl _ _ rfl rfl
              have d40 : a.eval (.tmp 104) = .pointer (some (an.add (t * 3))) := D 40 rfl _ _ rfl rfl
              have hc0 := (hW.cell (p := _) (World.block_lt_of_cell? _ _ k0)).trans k0
              have hc1 := (hW.cell (p := _) (World.block_lt_of_cell? _ _ k1)).trans k1
              have hc2 := (hW.cell (p := _) (World.block_lt_of_cell? _ _ k2)).trans k2
              exact Rgs.val rfl (Reg.wanted_if rfl rfl dg rfl) (.agg #[.int .i64 (i : Int), .int .i64 (j : Int), .bool r]) (by have c := Reg.consts a; generalize a.eval = ρ at *; simp [execOp, go_sem, c.1, c.2, d40, hc0, hc1, hc2]) rfl hW
            · intro a w1 live S E D C0 h0 hk hW
              have dg : a.eval (.tmp 92) = .bool false := D 28 rfl _ _ rfl rfl
              have d36 : a.eval (.tmp 100) = .agg #[.slice A1 n1 c1, .slice A2 n2 c2, .slice A3 n3 c3] := D 36 rfl _ _ rfl rfl
              have d37 : a.eval (.tmp 101) = .slice A n c := D 37 rfl _ _ rfl rfl
              have d41 : a.eval (.tmp 105) = .agg #[.int .i64 (i : Int), .int .i64 (j : Int), .bool r] := D 41 rfl _ _ rfl rfl
              refine Rgs.call rfl (Reg.wanted_if rfl rfl dg rfl) 30 #[.agg #[.slice A1 n1 c1, .slice A2 n2 c2, .slice A3 n3 c3], .slice A n c, .agg #[.int .i64 (i : Int), .int .i64 (j : Int), .bool r]] (by have c := Reg.consts a; generalize a.eval = ρ at *; simp [execOp, go_sem, c.1, c.2, d36, d37, d41]) ?_
              refine (HRF.out w1 hW).mono ?_
              rintro e w5 ⟨rfl, hb5⟩
              exact ⟨_, rfl, rfl, hW.trans (hb5.mono hW.size), fun j v _ hv => by
                  revert hv
                  match j with
                  | 19 => exact fun h => h.on hb5
                  | 25 => exact fun h => h.on hb5
                  | 0 | 1 | 2 | 3 | 4 | 5 | 6 | 7 | 8 | 9 | 10 | 11 | 12 | 13 | 14 | 15 | 16 | 17 | 18 | 20 | 21 | 22 | 23 | 24 | 26 | 27 | 28 | 29 | 30 | 31 | 32 | 33 | 34 | 35 | 36 | 37 | 38 | 39 | 40 | 41 | 42 | 43 | 44 | 45 | 46 | _ + 47 => exact fun h => h⟩
            · intro a w1 live S E D C0 h0 hk hW
              have dg : a.eval (.tmp 92) = .bool false := D 28 rfl _ _ rfl rfl
              have d35 : a.eval (.tmp 99) = .bool bf2 := D 35 rfl _ _ rfl rfl
              have d42 : a.eval (.tmp 106) = .bool bf2 := D 42 rfl _ _ rfl rfl
              exact Rgs.val rfl (Reg.wanted_if rfl rfl dg rfl) (.bool false) (by have c := Reg.consts a; generalize a.eval = ρ at *; simp [execOp, go_sem, c.1, c.2, d35, d42]) rfl hW
            · intro a w1 live S E D C0 h0 hk hW
              have dg : a.eval (.tmp 77) = .bool true := D 13 rfl _ _ rfl rfl
              have d28 : a.eval (.tmp 92) = .bool false := D 28 rfl _ _ rfl rfl
              have d43 : a.eval (.tmp 107) = .bool false := D 43 rfl _ _ rfl rfl
              exact Rgs.val rfl (Reg.wanted_if rfl rfl dg rfl) (.bool false) (by have c := Reg.consts a; generalize a.eval = ρ at *; simp [execOp, go_sem, c.1, c.2, d28, d43]) rfl hW
            · intro a w1 live S E D C0 h0 hk hW
              have dg : a.eval (.tmp 74) = .bool false := D 10 rfl _ _ rfl rfl
              have d13 : a.eval (.tmp 77) = .bool true := D 13 rfl _ _ rfl rfl
              have d44 : a.eval (.tmp 108) = .bool false := D 44 rfl _ _ rfl rfl
              exact Rgs.val rfl (Reg.wanted_if rfl rfl dg rfl) (.bool false) (by have c := Reg.consts a; generalize a.eval = ρ at *; simp [execOp, go_sem, c.1, c.2, d13, d44]) rfl hW
            · intro a w1 live S E D C0 h0 hk hW
              have d10 : a.eval (.tmp 74) = .bool false := D 10 rfl _ _ rfl rfl
              have d45 : a.eval (.tmp 109) = .bool false := D 45 rfl _ _ rfl rfl
              exact Rgs.val rfl (Reg.wanted_free rfl) (.bool false) (by have c := Reg.consts a; generalize a.eval = ρ at *; simp [execOp, go_sem, c.1, c.2, d10, d45]) rfl hW
          · intro a w9 live hs hd E D Hl hW
            have e110 : a.eval (.tmp 110) = .bool false := by
              obtain ⟨v, hv, he⟩ := D 46 _ rfl
              exact (he 110 rfl).trans hv
            rw [Rgs.act_ws a _ _ hs hd E [64, 65, 66, 67, 68, 69, 70, 71, 72, 73, 74, 75, 76, 77, 78, 79, 80, 81, 82, 83, 84, 85, 86, 87, 88, 89, 90, 91, 92, 93, 94, 95, 96, 97, 98, 99, 100, 101, 102, 103, 104, 105, 106, 107, 108, 109, 110] (by kernel_rfl)]
            simp only [List.foldl, List.setIfInBounds_toArray, List.set_cons_succ, List.set_cons_zero, e110]
            have HB9 := Lib.hid (HB.out.trans (Below.mono hW HB.out.size))
            clear E D Hl hW e110 HFI HRF HDO HRD m0 m1 m2 e0 e1 e2 k0 k1 k2
            generalize a.eval = ρ
            clear a hs hd
            go_wp2_with fail
            go_roundw
            case rel => exact ⟨t + 1, by omega, by go_num, HB9.out⟩
            case measure => simp [intOf]; omega
        · have HTW : Hid (decide ((t : Int) < 12) = false) := Lib.hid (decide_eq_false h12)
          clear h12
          go_wp2_with fail
          refine Rgs.region (by kernel_rfl) (by kernel_rfl) (fun (opn : Nat) (vl : Value) (wo : World) => match opn with | 0 => vl = .slice (some am) Q.length c4 | 1 => vl = .int .i64 (t : Int) | 2 => vl = .pointer (some (am.add (t * 3))) | 3 => vl = .agg #[.int .i64 (i : Int), .int .i64 (j : Int), .bool r] | 4 => vl = .agg #[.int .i64 (i : Int), .int .i64 (j : Int), .bool r] | 5 => vl = .slice (some an) Q.length c5 | 6 => vl = .int .i64 (t : Int) | 7 => vl = .pointer (some (an.add (t * 3))) | 8 => vl = .agg #[.int .i64 (i : Int), .int .i64 (j : Int), .bool r] | 9 => vl = .bool false | 10 => vl = .bool false | 11 => vl = .int .i64 (t : Int) | 12 => vl = .bool false | 13 => vl = .bool false | 14 => vl = undef | 15 => vl = undef | 16 => vl = undef | 17 => vl = undef | 18 => vl = undef | 19 => vl = undef | 20 => vl = undef | 21 => vl = undef | 22 => vl = undef | 23 => vl = undef | 24 => vl = undef | 25 => vl = undef | 26 => vl = undef | 27 => vl = undef | 28 => vl = undef | 29 => vl = undef | 30 => vl = undef | 31 => vl = undef | 32 => vl = undef | 33 => vl = undef | 34 => vl = undef | 35 => vl = undef | 36 => vl = undef | 37 => vl = undef | 38 => vl = undef | 39 => vl = undef | 40 => vl = undef | 41 => vl = undef | 42 => vl = undef | 43 => vl = undef | 44 => vl = undef | 45 => vl = .bool false | 46 => vl = .bool false | _ => True) (fun _ _ w' => Below wr.heap.size wr w') (Below.refl _ _).drew (Rgs.steps_of ?_) ?_
          · refine ⟨?_, ?_, ?_, ?_, ?_, ?_, ?_, ?_, ?_, ?_, ?_, ?_, ?_, ?_, ?_, ?_, ?_, ?_, ?_, ?_, ?_, ?_, ?_, ?_, ?_, ?_, ?_, ?_, ?_, ?_, ?_, ?_, ?_, ?_, ?_, ?_, ?_, ?_, ?_, ?_, ?_, ?_, ?_, ?_, ?_, ?_, ?_, trivial⟩
            · intro a w1 live S E D C0 h0 hk hW
              have e108 : a.eval (.tmp 8) = .slice (some am) Q.length c4 := E 8 rfl
              exact Rgs.val rfl (Reg.wanted_free rfl) (.slice (some am) Q.length c4) (by have c := Reg.consts a; generalize a.eval = ρ at *; simp [execOp, go_sem, c.1, c.2, e108]) rfl hW
            · intro a w1 live S E D C0 h0 hk hW
              have e110 : a.eval (.tmp 10) = .int .i64 (t : Int) := E 10 rfl
              exact Rgs.val rfl (Reg.wanted_free rfl) (.int .i64 (t : Int)) (by have c := Reg.consts a; generalize a.eval = ρ at *; simp [execOp, go_sem, c.1, c.2, e110]) rfl hW
            · intro a w1 live S E D C0 h0 hk hW
              have d0 : a.eval (.tmp 64) = .slice (some am) Q.length c4 := D 0 rfl _ _ rfl rfl
              have d1 : a.eval (.tmp 65) = .int .i64 (t : Int) := D 1 rfl _ _ rfl rfl
              have i1 := HLT.out
              obtain ⟨i1, i2, i3, i4⟩ := i1
              exact Rgs.val rfl (Reg.wanted_free rfl) (.pointer (some (am.add (t * 3)))) (by have c := Reg.consts a; generalize a.eval = ρ at *; simp [execOp, go_sem, c.1, c.2, d0, d1, i1, i2, i3, i4]) rfl hW
            · intro a w1 live S E D C0 h0 hk hW
              have d2 : a.eval (.tmp 66) = .pointer (some (am.add (t * 3))) := D 2 rfl _ _ rfl rfl
              have hc0 := (hW.cell (p := _) (World.block_lt_of_cell? _ _ e0)).trans e0
              have hc1 := (hW.cell (p := _) (World.block_lt_of_cell? _ _ e1)).trans e1
              have hc2 := (hW.cell (p := _) (World.block_lt_of_cell? _ _ e2)).trans e2
              exact Rgs.val rfl (Reg.wanted_free rfl) (.agg #[.int .i64 (i : Int), .int .i64 (j : Int), .bool r]) (by have c := Reg.consts a; generalize a.eval = ρ at *; simp [execOp, go_sem, c.1, c.2, d2, hc0, hc1, hc2]) rfl hW
            · intro a w1 live S E D C0 h0 hk hW
              have d3 : a.eval (.tmp 67) = .agg #[.int .i64 (i : Int), .int .i64 (j : Int), .bool r] := D 3 rfl _ _ rfl rfl
              refine Rgs.call rfl (Reg.wanted_free rfl) 28 #[.agg #[.int .i64 (i : Int), .int .i64 (j : Int), .bool r]] (by have c := Reg.consts a; generalize a.eval = ρ at *; simp [execOp, go_sem, c.1, c.2, d3]) ?_
              refine (to_any (i : Int) (j : Int) r w1).mono ?_
              rintro e w5 ⟨rfl, hb5⟩
              exact ⟨_, rfl, rfl, hW.trans (hb5.mono hW.size), fun j v _ hv => by
                  revert hv
                  match j with
                  | 0 | 1 | 2 | 3 | 4 | 5 | 6 | 7 | 8 | 9 | 10 | 11 | 12 | 13 | 14 | 15 | 16 | 17 | 18 | 19 | 20 | 21 | 22 | 23 | 24 | 25 | 26 | 27 | 28 | 29 | 30 | 31 | 32 | 33 | 34 | 35 | 36 | 37 | 38 | 39 | 40 | 41 | 42 | 43 | 44 | 45 | 46 | _ + 47 => exact fun h => h⟩
            · intro a w1 live S E D C0 h0 hk hW
              have e109 : a.eval (.tmp 9) = .slice (some an) Q.length c5 := E 9 rfl
              exact Rgs.val rfl (Reg.wanted_free rfl) (.slice (some an) Q.length c5) (by have c := Reg.consts a; generalize a.eval = ρ at *; simp [execOp, go_sem, c.1, c.2, e109]) rfl hW
            · intro a w1 live S E D C0 h0 hk hW
              have e110 : a.eval (.tmp 10) = .int .i64 (t : Int) := E 10 rfl
              exact Rgs.val rfl (Reg.wanted_free rfl) (.int .i64 (t : Int)) (by have c := Reg.consts a; generalize a.eval = ρ at *; simp [execOp, go_sem, c.1, c.2, e110]) rfl hW
            · intro a w1 live S E D C0 h0 hk hW
              have d5 : a.eval (.tmp 69) = .slice (some an) Q.length c5 := D 5 rfl _ _ rfl rfl
              have d6 : a.eval (.tmp 70) = .int .i64 (t : Int) := D 6 rfl _ _ rfl rfl
              have i1 := HLT.out
              obtain ⟨i1, i2, i3, i4⟩ := i1
              exact Rgs.val rfl (Reg.wanted_free rfl) (.pointer (some (an.add (t * 3)))) (by have c := Reg.consts a; generalize a.eval = ρ at *; simp [execOp, go_sem, c.1, c.2, d5, d6, i1, i2, i3, i4]) rfl hW
            · intro a w1 live S E D C0 h0 hk hW
              have d7 : a.eval (.tmp 71) = .pointer (some (an.add (t * 3))) := D 7 rfl _ _ rfl rfl
              have hc0 := (hW.cell (p := _) (World.block_lt_of_cell? _ _ k0)).trans k0
              have hc1 := (hW.cell (p := _) (World.block_lt_of_cell? _ _ k1)).trans k1
              have hc2 := (hW.cell (p := _) (World.block_lt_of_cell? _ _ k2)).trans k2
              exact Rgs.val rfl (Reg.wanted_free rfl) (.agg #[.int .i64 (i : Int), .int .i64 (j : Int), .bool r]) (by have c := Reg.consts a; generalize a.eval = ρ at *; simp [execOp, go_sem, c.1, c.2, d7, hc0, hc1, hc2]) rfl hW
            · intro a w1 live S E D C0 h0 hk hW
              have d4 : a.eval (.tmp 68) = .agg #[.int .i64 (i : Int), .int .i64 (j : Int), .bool r] := D 4 rfl _ _ rfl rfl
              have d8 : a.eval (.tmp 72) = .agg #[.int .i64 (i : Int), .int .i64 (j : Int), .bool r] := D 8 rfl _ _ rfl rfl
              exact Rgs.val rfl (Reg.wanted_free rfl) (.bool false) (by have c := Reg.consts a; generalize a.eval = ρ at *; simp [execOp, go_sem, c.1, c.2, d4, d8]) rfl hW
            · intro a w1 live S E D C0 h0 hk hW
              have d9 : a.eval (.tmp 73) = .bool false := D 9 rfl _ _ rfl rfl
              exact Rgs.val rfl (Reg.wanted_free rfl) (.bool false) (by have c := Reg.consts a; generalize a.eval = ρ at *; simp [execOp, go_sem, c.1, c.2, d9]) rfl hW
            · intro a w1 live S E D C0 h0 hk hW
              have dg : a.eval (.tmp 74) = .bool false := D 10 rfl _ _ rfl rfl
              have e110 : a.eval (.tmp 10) = .int .i64 (t : Int) := E 10 rfl
              exact Rgs.val rfl (Reg.wanted_if rfl rfl dg rfl) (.int .i64 (t : Int)) (by have c := Reg.consts a; generalize a.eval = ρ at *; simp [execOp, go_sem, c.1, c.2, e110]) rfl hW
            · intro a w1 live S E D C0 h0 hk hW
              have dg : a.eval (.tmp 74) = .bool false := D 10 rfl _ _ rfl rfl
              have d11 : a.eval (.tmp 75) = .int .i64 (t : Int) := D 11 rfl _ _ rfl rfl
              have hh := HTW.out
              exact Rgs.val rfl (Reg.wanted_if rfl rfl dg rfl) (.bool false) (by have c := Reg.consts a; generalize a.eval = ρ at *; simp [execOp, go_sem, c.1, c.2, d11, hh]) rfl hW
            · intro a w1 live S E D C0 h0 hk hW
              have dg : a.eval (.tmp 74) = .bool false := D 10 rfl _ _ rfl rfl
              have d12 : a.eval (.tmp 76) = .bool false := D 12 rfl _ _ rfl rfl
              exact Rgs.val rfl (Reg.wanted_if rfl rfl dg rfl) (.bool false) (by have c := Reg.consts a; generalize a.eval = ρ at *; simp [execOp, go_sem, c.1, c.2, d12]) rfl hW
            · intro a w1 live S E D C0 h0 hk hW
              have dg : a.eval (.tmp 77) = .bool false := D 13 rfl _ _ rfl rfl
              exact Rgs.skip rfl (Rgs.wanted_not rfl rfl dg rfl) rfl hW
            · intro a w1 live S E D C0 h0 hk hW
              have dg : a.eval (.tmp 77) = .bool false := D 13 rfl _ _ rfl rfl
              exact Rgs.skip rfl (Rgs.wanted_not rfl rfl dg rfl) rfl hW
            · intro a w1 live S E D C0 h0 hk hW
              have dg : a.eval (.tmp 77) = .bool false := D 13 rfl _ _ rfl rfl
              exact Rgs.skip rfl (Rgs.wanted_not rfl rfl dg rfl) rfl hW
            · intro a w1 live S E D C0 h0 hk hW
              have dg : a.eval (.tmp 77) = .bool false := D 13 rfl _ _ rfl rfl
              exact Rgs.skip rfl (Rgs.wanted_not rfl rfl dg rfl) rfl hW
            · intro a w1 live S E D C0 h0 hk hW
              have dg : a.eval (.tmp 77) = .bool false := D 13 rfl _ _ rfl rfl
              exact Rgs.skip rfl (Rgs.wanted_not rfl rfl dg rfl) rfl hW
            · intro a w1 live S E D C0 h0 hk hW
              have dg : a.eval (.tmp 77) = .bool false := D 13 rfl _ _ rfl rfl
              exact Rgs.skip rfl (Rgs.wanted_not rfl rfl dg rfl) rfl hW
            · intro a w1 live S E D C0 h0 hk hW
              have dg : a.eval (.tmp 77) = .bool false := D 13 rfl _ _ rfl rfl
              exact Rgs.skip rfl (Rgs.wanted_not rfl rfl dg rfl) rfl hW
            · intro a w1 live S E D C0 h0 hk hW
              have dg : a.eval (.tmp 77) = .bool false := D 13 rfl _ _ rfl rfl
              exact Rgs.skip rfl (Rgs.wanted_not rfl rfl dg rfl) rfl hW
            · intro a w1 live S E D C0 h0 hk hW
              have dg : a.eval (.tmp 77) = .bool false := D 13 rfl _ _ rfl rfl
              exact Rgs.skip rfl (Rgs.wanted_not rfl rfl dg rfl) rfl hW
            · intro a w1 live S E D C0 h0 hk hW
              have dg : a.eval (.tmp 77) = .bool false := D 13 rfl _ _ rfl rfl
              exact Rgs.skip rfl (Rgs.wanted_not rfl rfl dg rfl) rfl hW
            · intro a w1 live S E D C0 h0 hk hW
              have dg : a.eval (.tmp 77) = .bool false := D 13 rfl _ _ rfl rfl
              exact Rgs.skip rfl (Rgs.wanted_not rfl rfl dg rfl) rfl hW
            · intro a w1 live S E D C0 h0 hk hW
              have dg : a.eval (.tmp 77) = .bool false := D 13 rfl _ _ rfl rfl
              exact Rgs.skip rfl (Rgs.wanted_not rfl rfl dg rfl) rfl hW
            · intro a w1 live S E D C0 h0 hk hW
              have dg : a.eval (.tmp 77) = .bool false := D 13 rfl _ _ rfl rfl
              exact Rgs.skip rfl (Rgs.wanted_not rfl rfl dg rfl) rfl hW
            · intro a w1 live S E D C0 h0 hk hW
              have dg : a.eval (.tmp 77) = .bool false := D 13 rfl _ _ rfl rfl
              exact Rgs.skip rfl (Rgs.wanted_not rfl rfl dg rfl) rfl hW
            · intro a w1 live S E D C0 h0 hk hW
              have dg : a.eval (.tmp 77) = .bool false := D 13 rfl _ _ rfl rfl
              exact Rgs.skip rfl (Rgs.wanted_not rfl rfl dg rfl) rfl hW
            · intro a w1 live S E D C0 h0 hk hW
              have dg : a.eval (.tmp 92) = undef := D 28 rfl _ _ rfl rfl
              exact Rgs.skip rfl (Rgs.wanted_undef rfl rfl dg) rfl hW
            · intro a w1 live S E D C0 h0 hk hW
              have dg : a.eval (.tmp 92) = undef := D 28 rfl _ _ rfl rfl
              exact Rgs.skip rfl (Rgs.wanted_undef rfl rfl dg) rfl hW
            · intro a w1 live S E D C0 h0 hk hW
              have dg : a.eval (.tmp 92) = undef := D 28 rfl _ _ rfl rfl
              exact Rgs.skip rfl (Rgs.wanted_undef rfl rfl dg) rfl hW
            · intro a w1 live S E D C0 h0 hk hW
              have dg : a.eval (.tmp 92) = undef := D 28 rfl _ _ rfl rfl
              exact Rgs.skip rfl (Rgs.wanted_undef rfl rfl dg) rfl hW
            · intro a w1 live S E D C0 h0 hk hW
              have dg : a.eval (.tmp 92) = undef := D 28 rfl _ _ rfl rfl
              exact Rgs.skip rfl (Rgs.wanted_undef rfl rfl dg) rfl hW
            · intro a w1 live S E D C0 h0 hk hW
              have dg : a.eval (.tmp 92) = undef := D 28 rfl _ _ rfl rfl
              exact Rgs.skip rfl (Rgs.wanted_undef rfl rfl dg) rfl hW
            · intro a w1 live S E D C0 h0 hk hW
              have dg : a.eval (.tmp 92) = undef := D 28 rfl _ _ rfl rfl
              exact Rgs.skip rfl (Rgs.wanted_undef rfl rfl dg) rfl hW
            · intro a w1 live S E D C0 h0 hk hW
              have dg : a.eval (.tmp 92) = undef := D 28 rfl _ _ rfl rfl
              exact Rgs.skip rfl (Rgs.wanted_undef rfl rfl dg) rfl hW
            · intro a w1 live S E D C0 h0 hk hW
              have dg : a.eval (.tmp 92) = undef := D 28 rfl _ _ rfl rfl
              exact Rgs.skip rfl (Rgs.wanted_undef rfl rfl dg) rfl hW
            · intro a w1 live S E D C0 h0 hk hW
              have dg : a.eval (.tmp 92) = undef := D 28 rfl _ _ rfl rfl
              exact Rgs.skip rfl (Rgs.wanted_undef rfl rfl dg) rfl hW
            · intro a w1 live S E D C0 h0 hk hW
              have dg : a.eval (.tmp 92) = undef := D 28 rfl _ _ rfl rfl
              exact Rgs.skip rfl (Rgs.wanted_undef rfl rfl dg) rfl hW
            · intro a w1 live S E D C0 h0 hk hW
              have dg : a.eval (.tmp 92) = undef := D 28 rfl _ _ rfl rfl
              exact Rgs.skip rfl (Rgs.wanted_undef rfl rfl dg) rfl hW
            · intro a w1 live S E D C0 h0 hk hW
              have dg : a.eval (.tmp 92) = undef := D 28 rfl _ _ rfl rfl
              exact Rgs.skip rfl (Rgs.wanted_undef rfl rfl dg) rfl hW
            · intro a w1 live S E D C0 h0 hk hW
              have dg : a.eval (.tmp 92) = undef := D 28 rfl _ _ rfl rfl
              exact Rgs.skip rfl (Rgs.wanted_undef rfl rfl dg) rfl hW
            · intro a w1 live S E D C0 h0 hk hW
              have dg : a.eval (.tmp 92) = undef := D 28 rfl _ _ rfl rfl
              exact Rgs.skip rfl (Rgs.wanted_undef rfl rfl dg) rfl hW
            · intro a w1 live S E D C0 h0 hk hW
              have dg : a.eval (.tmp 77) = .bool false := D 13 rfl _ _ rfl rfl
              exact Rgs.skip rfl (Rgs.wanted_not rfl rfl dg rfl) rfl hW
            · intro a w1 live S E D C0 h0 hk hW
              have dg : a.eval (.tmp 74) = .bool false := D 10 rfl _ _ rfl rfl
              have d13 : a.eval (.tmp 77) = .bool false := D 13 rfl _ _ rfl rfl
              have d44 : a.eval (.tmp 108) = undef := D 44 rfl _ _ rfl rfl
              exact Rgs.val rfl (Reg.wanted_if rfl rfl dg rfl) (.bool false) (by have c := Reg.consts a; generalize a.eval = ρ at *; simp [execOp, go_sem, c.1, c.2, d13, d44]) rfl hW
            · intro a w1 live S E D C0 h0 hk hW
              have d10 : a.eval (.tmp 74) = .bool false := D 10 rfl _ _ rfl rfl
              have d45 : a.eval (.tmp 109) = .bool false := D 45 rfl _ _ rfl rfl
              exact Rgs.val rfl (Reg.wanted_free rfl) (.bool false) (by have c := Reg.consts a; generalize a.eval = ρ at *; simp [execOp, go_sem, c.1, c.2, d10, d45]) rfl hW
          · intro a w9 live hs hd E D Hl hW
            have e110 : a.eval (.tmp 110) = .bool false := by
              obtain ⟨v, hv, he⟩ := D 46 _ rfl
              exact (he 110 rfl).trans hv
            rw [Rgs.act_ws a _ _ hs hd E [64, 65, 66, 67, 68, 69, 70, 71, 72, 73, 74, 75, 76, 77, 78, 79, 80, 81, 82, 83, 84, 85, 86, 87, 88, 89, 90, 91, 92, 93, 94, 95, 96, 97, 98, 99, 100, 101, 102, 103, 104, 105, 106, 107, 108, 109, 110] (by kernel_rfl)]
            simp only [List.foldl, List.setIfInBounds_toArray, List.set_cons_succ, List.set_cons_zero, e110]
            have HB9 := Lib.hid (HB.out.trans (Below.mono hW HB.out.size))
            clear E D Hl hW e110 HFI HRF HDO HRD m0 m1 m2 e0 e1 e2 k0 k1 k2
            generalize a.eval = ρ
            clear a hs hd
            go_wp2_with fail
            go_roundw
            case rel => exact ⟨t + 1, by omega, by go_num, HB9.out⟩
            case measure => simp [intOf]; omega
      · have htli : ¬ (t : Int) < (Q.length : Int) := by omega
        have HBN := Lib.hid (HBB.out.trans (HB.out.mono HBB.out.size))
        go_wp2_with fail
        go_ret
        exact Ans.mk rfl HBN.out
/-- Of a row of natural numbers. -/
theorem lsame_row (A1 A2 A3 A : Option Addr) (n1 n2 n3 n c1 c2 c3 c : Nat) (P : List PtV) (C : List ChV) (L : List Rn) (I J : Int) (rt : Bool) (w : World) (hCf : CfW w w.heap.size A1 A2 n1 n2 P C) (hL : RdR w w.heap.size A n L)
    (q1 : n1 ≤ 1024) (q2 : n2 ≤ 1048576) (hc : n ≤ c) (hn : n ≤ 1024) (ht : ticks L ≤ 8192) (hz : ∀ x ∈ P, In64 x.per) (hps : ∀ r ∈ L, -1 ≤ r.p ∧ r.p ≤ 1024) :
    Calls Try.prog 11 #[.slice A n c, .agg #[.slice A1 n1 c1, .slice A2 n2 c2, .slice A3 n3 c3], .agg #[.int .i64 I, .int .i64 J, .bool rt]] w (Ans (.bool true) w) :=
  lsameG_any (fun _ _ => True) (fun I J rt => doZ L I J rt) (fun I J rt => fitZ P C L I J rt) A1 A2 A3 A n1 n2 n3 n c1 c2 c3 c P C (L.map Rn.p) I J rt w hCf hL.rdp q1 q2 hc hn
    (fun q hq => by
      obtain ⟨r, hr, rfl⟩ := List.mem_map.1 hq
      exact hps r hr) trivial (fun _ _ => trivial) (fun I J rt _ => by have h1 := doZ_len L I J rt; have h2 := hL.len; omega)
    (fun I J rt W _ hb => do_any A n c L I J rt W (hL.on hb) hc (by omega) (by omega)) (fun I J rt W _ hb => rdo_any A n c L I J rt W (hL.on hb) hc (by omega) (by omega))
    (fun I J rt W _ hb => moveW.fits A1 A2 A3 A n1 n2 n3 n c1 c2 c3 c P C L I J rt W (hCf.on hb) (hL.on hb) q1 q2 hc hn ht hz hps)
    (fun I J rt W _ hb => rfits_any A1 A2 A3 A n1 n2 n3 n c1 c2 c3 c P C L I J rt W (hCf.on hb) (hL.on hb) q1 q2 hc (by omega) ht hz hps)
end Go.Proofs.Ytoaocdmcjjohgaa
