import Derived.Test.YtfddpnhaejkacaaGreatLow12
import Derived.Test.YtfddpnhaejkacaaGreatLow5
import Derived.Test.YtfddpnhaejkacaaGreatLow7
import Derived.Deep.Cut
set_option linter.unusedSimpArgs false
set_option linter.unusedVariables false
namespace Go.Proofs.YtfddpnhaejkacaaGreat
open Go.RowKit Tab
open Lib (hid)
theorem drwR_frm {P:List PtV} {C:List ChV} {L:List Rn} (h:Frm L L.length):Frm (drwR P C L) (drwR P C L).length:=by
 unfold drwR
 cases hd:drawF P C L with
 | none=>exact h
 | some x =>
  obtain⟨m,hm,e,hk⟩:=drawL_some hd
  have h6:=frm_move (depP_sym P C) h rfl hm
  rw[← e] at h6
  exact h6
theorem samex_self (A1 A2:Option Addr) (n c1 c2:Nat) (L:List Rn) (w:World) (h1:RdR w w.heap.size A1 n L) (h2:RdR w w.heap.size A2 n L) (hn:n≤1048576) :
  Calls Tryz.prog 28 #[.slice A1 n c1,.slice A2 n c2] w (Ans (.bool true) w):=by
 have h:=xsame_any A1 A2 n n c1 c2 L L w h1 h2 hn
 rw[(sameR_iff L L).2 rfl] at h
 exact h.mono fun _ _ k=>k.ans
set_option maxRecDepth 100000 in
set_option maxHeartbeats 8000000 in
theorem lsame11_any {fo:Nat} (hW:ReduceW fo) (A1 A2 A3 A:Option Addr) (n1 n2 n3 c1 c2 c3 c:Nat) (P:List PtV) (C:List ChV) (L:List Rn) (w:World) (hI:RedIn w A1 A2 A n1 n2 L.length c1 c P C L) :
  Calls Tryz.prog 11 #[.agg #[.slice A1 n1 c1,.slice A2 n2 c2,.slice A3 n3 c3],.slice A L.length c] w (Ans (.bool true) w):=by
 have hb0:=bl1 w (.cells #[.slice A1 n1 c1,.slice A2 n2 c2,.slice A3 n3 c3] 31)
 have hbox:=box_vec w (.slice A1 n1 c1) (.slice A2 n2 c2) (.slice A3 n3 c3) 31
 have hI0:=hI.on hb0
 have hfr:=hI.frm
 have hRf:=(redF_redd (P:=P) (C:=C) L.length L hfr (Nat.le_refl _)).frm
 have hDf:=drwR_frm (P:=P) (C:=C) hfr
 have hMf:(tidy L).length≤1048576:=by have h1:=tidy_le L;have h2:=hfr.le;omega
 have HIN:=hid fun V (hv:Below (w.alloc (.cells #[.slice A1 n1 c1,.slice A2 n2 c2,.slice A3 n3 c3] 31)).heap.size (w.alloc (.cells #[.slice A1 n1 c1,.slice A2 n2 c2,.slice A3 n3 c3] 31)) V)=>hI0.on hv
 have HB0:=hid hb0
 have HWW:=hid hW
 clear hI hb0 hI0 hfr hW
 go_enter Tryz.func11,Tryz.ntmps11
 go_upto_region 1 with fail
 generalize w.alloc (.cells #[.slice A1 n1 c1,.slice A2 n2 c2,.slice A3 n3 c3] 31)=W at hbox HIN HB0 ⊢
 have HBX:=hid fun V (hv:Below W.heap.size W V)=>(hbox.on hv).three
 obtain⟨gc,hgc⟩:∃ gc,gc=w.heap.size:=⟨_,rfl⟩
 rw[← hgc] at HBX ⊢
 clear hbox hgc
 have HC1:=hid (HWW.out.runs A1 A2 A3 A n1 n2 n3 L.length c1 c2 c3 c P C L W (HIN.out W (Below.refl _ _)))
 have HC2:=hid fun V (hv:Below W.heap.size W V)=>(HIN.out V hv).rruns A3 n3 c2 c3
 have HC3:=hid fun V (hv:Below W.heap.size W V)=>HWW.out.merge A1 A2 A3 A n1 n2 n3 L.length c1 c2 c3 c P C L V (HIN.out V hv)
 have HC4:=hid fun V (hv:Below W.heap.size W V)=>(HIN.out V hv).rmerge
 have HC5:=hid fun V (hv:Below W.heap.size W V)=>HWW.out.draw A1 A2 A3 A n1 n2 n3 L.length c1 c2 c3 c P C L V (HIN.out V hv)
 have HC6:=hid fun V (hv:Below W.heap.size W V)=>(HIN.out V hv).rdraw A3 n3 c2 c3
 have HK1:=hid fun V (hv:Below W.heap.size W V)=>HWW.out.stuck A1 A2 A3 A n1 n2 n3 L.length c1 c2 c3 c P C L V (HIN.out V hv)
 have HK2:=hid fun V (hv:Below W.heap.size W V)=>(HIN.out V hv).rstuck A3 n3 c2 c3
 have HVA:=hid fun V (hv:Below W.heap.size W V) (B:Option Addr) (m d:Nat) (X:List Rn) (hX:RdR V V.heap.size B m X) (hd:m≤d) (hF:Frm X m)=>HWW.out.valid A1 A2 A3 A B n1 n2 n3 L.length m c1 c2 c3 c d P C L X V (HIN.out V hv) hX hd hF
 have HVR:=hid fun V (hv:Below W.heap.size W V) (B:Option Addr) (m d:Nat) (X:List Rn) (hX:RdR V V.heap.size B m X) (hd:m≤d) (hF:Frm X m)=>(HIN.out V hv).rvalid A3 B n3 m c2 c3 d X hX hd hF
 obtain⟨v1,hv1⟩:∃ v1:List Rn→Bool,v1=fun X=>validF P C L X:=⟨_,rfl⟩
 generalize (redF P C L.length L).1=R at HC1 HC2 hRf
 generalize (redF P C L.length L).2=K at HC1 HC2
 generalize tidy L=M at HC3 HC4 hMf
 generalize mergeB L=mb at HC3 HC4
 generalize drwR P C L=Y at HC5 HC6 hDf
 generalize drwB P C L=db at HC5 HC6 HK1 HK2
 have HRF:=hid hRf
 have HDF:=hid hDf
 have HMF:=hid hMf
 clear hRf hDf hMf hv1 v1
 obtain⟨m0,m1,m2⟩:=HBX.out W (Below.refl _ _)
 have HT:=hid (HC1.out)
 go_wp2_with fail
 refine HT.out.mono ?_
 rintro e w1 ⟨A5,c5,rfl,hr5,hc5,hb1⟩
 have HB1:=hid hb1
 have HR5:=hid fun V (hv:Below w1.heap.size w1 V)=>hr5.on hv
 have HQ1:=hid hb1
 clear hr5 hb1 m0 m1 m2 HT
 obtain⟨m0,m1,m2⟩:=HBX.out w1 HB1.out
 have HT:=hid (HC2.out w1 HB1.out)
 go_wp2_with fail
 refine HT.out.mono ?_
 rintro e w2 ⟨A6,c6,rfl,hr6,hc6,hb2⟩
 have HB2:=hid (HB1.out.trans (hb2.mono HB1.out.size))
 have HR6:=hid fun V (hv:Below w2.heap.size w2 V)=>hr6.on hv
 have HQ2:=hid hb2
 clear hr6 hb2 m0 m1 m2 HT
 obtain⟨m0,m1,m2⟩:=HBX.out w2 HB2.out
 have HT:=hid (HC3.out w2 HB2.out)
 go_wp2_with fail
 refine HT.out.mono ?_
 rintro e w3 ⟨A7,c7,rfl,hr7,hc7,hb3⟩
 have HB3:=hid (HB2.out.trans (hb3.mono HB2.out.size))
 have HR7:=hid fun V (hv:Below w3.heap.size w3 V)=>hr7.on hv
 have HQ3:=hid hb3
 clear hr7 hb3 m0 m1 m2 HT
 obtain⟨m0,m1,m2⟩:=HBX.out w3 HB3.out
 have HT:=hid (HC4.out w3 HB3.out)
 go_wp2_with fail
 refine HT.out.mono ?_
 rintro e w4 ⟨A8,c8,rfl,hr8,hc8,hb4⟩
 have HB4:=hid (HB3.out.trans (hb4.mono HB3.out.size))
 have HR8:=hid fun V (hv:Below w4.heap.size w4 V)=>hr8.on hv
 have HQ4:=hid hb4
 clear hr8 hb4 m0 m1 m2 HT
 obtain⟨m0,m1,m2⟩:=HBX.out w4 HB4.out
 have HT:=hid (HC5.out w4 HB4.out)
 go_wp2_with fail
 refine HT.out.mono ?_
 rintro e w5 ⟨A9,c9,rfl,hr9,hc9,hb5⟩
 have HB5:=hid (HB4.out.trans (hb5.mono HB4.out.size))
 have HR9:=hid fun V (hv:Below w5.heap.size w5 V)=>hr9.on hv
 have HQ5:=hid hb5
 clear hr9 hb5 m0 m1 m2 HT
 obtain⟨m0,m1,m2⟩:=HBX.out w5 HB5.out
 have HT:=hid (HC6.out w5 HB5.out)
 go_wp2_with fail
 refine HT.out.mono ?_
 rintro e w6 ⟨A10,c10,rfl,hr10,hc10,hb6⟩
 have HB6:=hid (HB5.out.trans (hb6.mono HB5.out.size))
 have HR10:=hid fun V (hv:Below w6.heap.size w6 V)=>hr10.on hv
 have HQ6:=hid hb6
 clear hr10 hb6 m0 m1 m2 HT
 have H66:Hid (Below w6.heap.size w6 w6):=hid (Below.refl _ _)
 have H56:Hid (Below w5.heap.size w5 w6):=hid (HQ6.out.trans (H66.out.mono HQ6.out.size))
 have H46:Hid (Below w4.heap.size w4 w6):=hid (HQ5.out.trans (H56.out.mono HQ5.out.size))
 have H36:Hid (Below w3.heap.size w3 w6):=hid (HQ4.out.trans (H46.out.mono HQ4.out.size))
 have H26:Hid (Below w2.heap.size w2 w6):=hid (HQ3.out.trans (H36.out.mono HQ3.out.size))
 have H16:Hid (Below w1.heap.size w1 w6):=hid (HQ2.out.trans (H26.out.mono HQ2.out.size))
 have HS1:=hid fun V (hv:Below w6.heap.size w6 V)=>samex_self A5 A6 R.length c5 c6 R V (HR5.out V (H16.out.trans (hv.mono H16.out.size))) (HR6.out V (H26.out.trans (hv.mono H26.out.size))) (by have:=HRF.out.le;omega)
 have HS2:=hid fun V (hv:Below w6.heap.size w6 V)=>samex_self A7 A8 M.length c7 c8 M V (HR7.out V (H36.out.trans (hv.mono H36.out.size))) (HR8.out V (H46.out.trans (hv.mono H46.out.size))) HMF.out
 have HS3:=hid fun V (hv:Below w6.heap.size w6 V)=>samex_self A9 A10 Y.length c9 c10 Y V (HR9.out V (H56.out.trans (hv.mono H56.out.size))) (HR10.out V (H66.out.trans (hv.mono H66.out.size))) (by have:=HDF.out.le;omega)
 have HL1:=hid fun V (hv:Below w6.heap.size w6 V)=>HK1.out V (HB6.out.trans (hv.mono HB6.out.size))
 have HL2:=hid fun V (hv:Below w6.heap.size w6 V)=>HK2.out V (HB6.out.trans (hv.mono HB6.out.size))
 have HV1:=hid fun V (hv:Below w6.heap.size w6 V)=>HVA.out V (HB6.out.trans (hv.mono HB6.out.size)) A6 R.length c6 R (HR6.out V (H26.out.trans (hv.mono H26.out.size))) hc6 HRF.out
 have HV2:=hid fun V (hv:Below w6.heap.size w6 V)=>HVR.out V (HB6.out.trans (hv.mono HB6.out.size)) A6 R.length c6 R (HR6.out V (H26.out.trans (hv.mono H26.out.size))) hc6 HRF.out
 have HV3:=hid fun V (hv:Below w6.heap.size w6 V)=>HVA.out V (HB6.out.trans (hv.mono HB6.out.size)) A10 Y.length c10 Y (HR10.out V (H66.out.trans (hv.mono H66.out.size))) hc10 HDF.out
 have HV4:=hid fun V (hv:Below w6.heap.size w6 V)=>HVR.out V (HB6.out.trans (hv.mono HB6.out.size)) A10 Y.length c10 Y (HR10.out V (H66.out.trans (hv.mono H66.out.size))) hc10 HDF.out
 generalize validF P C L R=v1 at HV1 HV2
 generalize validF P C L Y=v2 at HV3 HV4
 have HFF:=hid (HB0.out.trans (HB6.out.mono HB0.out.size))
 obtain⟨m0,m1,m2⟩:=HBX.out w6 HB6.out
 clear HWW HIN HC1 HC2 HC3 HC4 HC5 HC6 HVA HVR HK1 HK2 HBX HQ1 HQ2 HQ3 HQ4 HQ5 HQ6 HR5 HR6 HR7 HR8 HR9 HR10 H16 H26 H36 H46 H56 H66 HB1 HB2 HB3 HB4 HB5
 go_upto_region 7 with fail
 refine Rgs.region (by kernel_rfl) (by kernel_rfl) (fun(opn:Nat) (vl:Value) (_:World)=>match opn with | 0=>vl=.slice A5 R.length c5 | 1=>vl=.slice A6 R.length c6 | 2=>vl=.bool true | 3=>vl=.bool true | 4=>vl=.int .i64 (K:Int) | 5=>vl=.int .i64 (K:Int) | 6=>vl=.bool true | 7=>vl=.bool true | 8=>vl=.bool true | 9=>vl=.slice A7 M.length c7 | 10=>vl=.slice A8 M.length c8 | 11=>vl=.bool true | 12=>vl=.bool true | 13=>vl=.bool true | 14=>vl=.bool mb | 15=>vl=.bool mb | 16=>vl=.bool true | 17=>vl=.bool true | 18=>vl=.bool true | 19=>vl=.slice A9 Y.length c9 | 20=>vl=.slice A10 Y.length c10 | 21=>vl=.bool true | 22=>vl=.bool true | 23=>vl=.bool true | 24=>vl=.bool db | 25=>vl=.bool db | 26=>vl=.bool true | 27=>vl=.bool true | 28=>vl=.bool true | 29=>vl=.agg #[.slice A1 n1 c1,.slice A2 n2 c2,.slice A3 n3 c3] | 30=>vl=.slice A L.length c | 31=>vl=.bool (!db) | 32=>vl=.agg #[.slice A1 n1 c1,.slice A2 n2 c2,.slice A3 n3 c3] | 33=>vl=.slice A L.length c | 34=>vl=.bool (!db) | 35=>vl=.bool true | 36=>vl=.bool true | 37=>vl=.bool true | 38=>vl=.agg #[.slice A1 n1 c1,.slice A2 n2 c2,.slice A3 n3 c3] | 39=>vl=.slice A L.length c | 40=>vl=.slice A6 R.length c6 | 41=>vl=.bool v1 | 42=>vl=.agg #[.slice A1 n1 c1,.slice A2 n2 c2,.slice A3 n3 c3] | 43=>vl=.slice A L.length c | 44=>vl=.slice A6 R.length c6 | 45=>vl=.bool v1 | 46=>vl=.bool true | 47=>vl=.bool true | 48=>vl=.bool true | 49=>vl=.agg #[.slice A1 n1 c1,.slice A2 n2 c2,.slice A3 n3 c3] | 50=>vl=.slice A L.length c | 51=>vl=.slice A10 Y.length c10 | 52=>vl=.bool v2 | 53=>vl=.agg #[.slice A1 n1 c1,.slice A2 n2 c2,.slice A3 n3 c3] | 54=>vl=.slice A L.length c | 55=>vl=.slice A10 Y.length c10 | 56=>vl=.bool v2 | 57=>vl=.bool true | 58=>vl=.bool true | 59=>vl=.bool true | _=>True) (fun _ _ w'=>Below w6.heap.size w6 w') (Below.refl _ _).drew (Rgs.steps_of ?_) ?_
 ·refine⟨?_,?_,?_,?_,?_,?_,?_,?_,?_,?_,?_,?_,?_,?_,?_,?_,?_,?_,?_,?_,?_,?_,?_,?_,?_,?_,?_,?_,?_,?_,?_,?_,?_,?_,?_,?_,?_,?_,?_,?_,?_,?_,?_,?_,?_,?_,?_,?_,?_,?_,?_,?_,?_,?_,?_,?_,?_,?_,?_,?_,trivial⟩ <;> intro a w1 live S E D C h0 hk hW
  ·have e5:a.eval (.tmp 5)=.slice A5 R.length c5:=E 5 rfl
   exact Rgs.val rfl (Reg.wanted_free rfl) (.slice A5 R.length c5) (by have c:=Reg.consts a;generalize a.eval=ρ at *;simp[execOp,go_sem,c.1,c.2,e5]) rfl hW
  ·have e7:a.eval (.tmp 7)=.slice A6 R.length c6:=E 7 rfl
   exact Rgs.val rfl (Reg.wanted_free rfl) (.slice A6 R.length c6) (by have c:=Reg.consts a;generalize a.eval=ρ at *;simp[execOp,go_sem,c.1,c.2,e7]) rfl hW
  ·have d0:a.eval (.tmp 52)=.slice A5 R.length c5:=D 0 rfl _ _ rfl rfl
   have d1:a.eval (.tmp 53)=.slice A6 R.length c6:=D 1 rfl _ _ rfl rfl
   have d0:a.eval (.tmp 52)=.slice A5 R.length c5:=D 0 rfl _ _ rfl rfl
   have d1:a.eval (.tmp 53)=.slice A6 R.length c6:=D 1 rfl _ _ rfl rfl
   refine Rgs.call rfl (Reg.wanted_free rfl) 28 #[.slice A5 R.length c5,.slice A6 R.length c6] (by have c:=Reg.consts a;generalize a.eval=ρ at *;simp[execOp,go_sem,c.1,c.2,d0,d1]) ?_
   refine(HS1.out w1 hW).mono ?_
   rintro e w5 ⟨rfl,hb5⟩
   exact⟨_,rfl,rfl,hW.trans (hb5.mono hW.size),fun _ _ _ h=>h⟩
  ·have d2:a.eval (.tmp 54)=.bool true:=D 2 rfl _ _ rfl rfl
   exact Rgs.val rfl (Reg.wanted_free rfl) (.bool true) (by have c:=Reg.consts a;generalize a.eval=ρ at *;simp[execOp,go_sem,c.1,c.2,d2]) rfl hW
  ·have dg:a.eval (.tmp 55)=.bool true:=D 3 rfl _ _ rfl rfl
   have e6:a.eval (.tmp 6)=.int .i64 (K:Int):=E 6 rfl
   exact Rgs.val rfl (Reg.wanted_if rfl rfl dg rfl) (.int .i64 (K:Int)) (by have c:=Reg.consts a;generalize a.eval=ρ at *;simp[execOp,go_sem,c.1,c.2,e6]) rfl hW
  ·have dg:a.eval (.tmp 55)=.bool true:=D 3 rfl _ _ rfl rfl
   have e8:a.eval (.tmp 8)=.int .i64 (K:Int):=E 8 rfl
   exact Rgs.val rfl (Reg.wanted_if rfl rfl dg rfl) (.int .i64 (K:Int)) (by have c:=Reg.consts a;generalize a.eval=ρ at *;simp[execOp,go_sem,c.1,c.2,e8]) rfl hW
  ·have dg:a.eval (.tmp 55)=.bool true:=D 3 rfl _ _ rfl rfl
   have d4:a.eval (.tmp 56)=.int .i64 (K:Int):=D 4 rfl _ _ rfl rfl
   have d5:a.eval (.tmp 57)=.int .i64 (K:Int):=D 5 rfl _ _ rfl rfl
   exact Rgs.val rfl (Reg.wanted_if rfl rfl dg rfl) (.bool true) (by have c:=Reg.consts a;generalize a.eval=ρ at *;simp[execOp,go_sem,c.1,c.2,d4,d5]) rfl hW
  ·have d3:a.eval (.tmp 55)=.bool true:=D 3 rfl _ _ rfl rfl
   have d6:a.eval (.tmp 58)=.bool true:=D 6 rfl _ _ rfl rfl
   exact Rgs.val rfl (Reg.wanted_free rfl) (.bool true) (by have c:=Reg.consts a;generalize a.eval=ρ at *;simp[execOp,go_sem,c.1,c.2,d3,d6]) rfl hW
  ·have d7:a.eval (.tmp 59)=.bool true:=D 7 rfl _ _ rfl rfl
   exact Rgs.val rfl (Reg.wanted_free rfl) (.bool true) (by have c:=Reg.consts a;generalize a.eval=ρ at *;simp[execOp,go_sem,c.1,c.2,d7]) rfl hW
  ·have dg:a.eval (.tmp 60)=.bool true:=D 8 rfl _ _ rfl rfl
   have e9:a.eval (.tmp 9)=.slice A7 M.length c7:=E 9 rfl
   exact Rgs.val rfl (Reg.wanted_if rfl rfl dg rfl) (.slice A7 M.length c7) (by have c:=Reg.consts a;generalize a.eval=ρ at *;simp[execOp,go_sem,c.1,c.2,e9]) rfl hW
  ·have dg:a.eval (.tmp 60)=.bool true:=D 8 rfl _ _ rfl rfl
   have e11:a.eval (.tmp 11)=.slice A8 M.length c8:=E 11 rfl
   exact Rgs.val rfl (Reg.wanted_if rfl rfl dg rfl) (.slice A8 M.length c8) (by have c:=Reg.consts a;generalize a.eval=ρ at *;simp[execOp,go_sem,c.1,c.2,e11]) rfl hW
  ·have dg:a.eval (.tmp 60)=.bool true:=D 8 rfl _ _ rfl rfl
   have d9:a.eval (.tmp 61)=.slice A7 M.length c7:=D 9 rfl _ _ rfl rfl
   have d10:a.eval (.tmp 62)=.slice A8 M.length c8:=D 10 rfl _ _ rfl rfl
   have dg:a.eval (.tmp 60)=.bool true:=D 8 rfl _ _ rfl rfl
   have d9:a.eval (.tmp 61)=.slice A7 M.length c7:=D 9 rfl _ _ rfl rfl
   have d10:a.eval (.tmp 62)=.slice A8 M.length c8:=D 10 rfl _ _ rfl rfl
   refine Rgs.call rfl (Reg.wanted_if rfl rfl dg rfl) 28 #[.slice A7 M.length c7,.slice A8 M.length c8] (by have c:=Reg.consts a;generalize a.eval=ρ at *;simp[execOp,go_sem,c.1,c.2,d9,d10]) ?_
   refine(HS2.out w1 hW).mono ?_
   rintro e w5 ⟨rfl,hb5⟩
   exact⟨_,rfl,rfl,hW.trans (hb5.mono hW.size),fun _ _ _ h=>h⟩
  ·have d8:a.eval (.tmp 60)=.bool true:=D 8 rfl _ _ rfl rfl
   have d11:a.eval (.tmp 63)=.bool true:=D 11 rfl _ _ rfl rfl
   exact Rgs.val rfl (Reg.wanted_free rfl) (.bool true) (by have c:=Reg.consts a;generalize a.eval=ρ at *;simp[execOp,go_sem,c.1,c.2,d8,d11]) rfl hW
  ·have d12:a.eval (.tmp 64)=.bool true:=D 12 rfl _ _ rfl rfl
   exact Rgs.val rfl (Reg.wanted_free rfl) (.bool true) (by have c:=Reg.consts a;generalize a.eval=ρ at *;simp[execOp,go_sem,c.1,c.2,d12]) rfl hW
  ·have dg:a.eval (.tmp 65)=.bool true:=D 13 rfl _ _ rfl rfl
   have e10:a.eval (.tmp 10)=.bool mb:=E 10 rfl
   exact Rgs.val rfl (Reg.wanted_if rfl rfl dg rfl) (.bool mb) (by have c:=Reg.consts a;generalize a.eval=ρ at *;simp[execOp,go_sem,c.1,c.2,e10]) rfl hW
  ·have dg:a.eval (.tmp 65)=.bool true:=D 13 rfl _ _ rfl rfl
   have e12:a.eval (.tmp 12)=.bool mb:=E 12 rfl
   exact Rgs.val rfl (Reg.wanted_if rfl rfl dg rfl) (.bool mb) (by have c:=Reg.consts a;generalize a.eval=ρ at *;simp[execOp,go_sem,c.1,c.2,e12]) rfl hW
  ·have dg:a.eval (.tmp 65)=.bool true:=D 13 rfl _ _ rfl rfl
   have d14:a.eval (.tmp 66)=.bool mb:=D 14 rfl _ _ rfl rfl
   have d15:a.eval (.tmp 67)=.bool mb:=D 15 rfl _ _ rfl rfl
   exact Rgs.val rfl (Reg.wanted_if rfl rfl dg rfl) (.bool true) (by have c:=Reg.consts a;generalize a.eval=ρ at *;simp[execOp,go_sem,c.1,c.2,d14,d15]) rfl hW
  ·have d13:a.eval (.tmp 65)=.bool true:=D 13 rfl _ _ rfl rfl
   have d16:a.eval (.tmp 68)=.bool true:=D 16 rfl _ _ rfl rfl
   exact Rgs.val rfl (Reg.wanted_free rfl) (.bool true) (by have c:=Reg.consts a;generalize a.eval=ρ at *;simp[execOp,go_sem,c.1,c.2,d13,d16]) rfl hW
  ·have d17:a.eval (.tmp 69)=.bool true:=D 17 rfl _ _ rfl rfl
   exact Rgs.val rfl (Reg.wanted_free rfl) (.bool true) (by have c:=Reg.consts a;generalize a.eval=ρ at *;simp[execOp,go_sem,c.1,c.2,d17]) rfl hW
  ·have dg:a.eval (.tmp 70)=.bool true:=D 18 rfl _ _ rfl rfl
   have e13:a.eval (.tmp 13)=.slice A9 Y.length c9:=E 13 rfl
   exact Rgs.val rfl (Reg.wanted_if rfl rfl dg rfl) (.slice A9 Y.length c9) (by have c:=Reg.consts a;generalize a.eval=ρ at *;simp[execOp,go_sem,c.1,c.2,e13]) rfl hW
  ·have dg:a.eval (.tmp 70)=.bool true:=D 18 rfl _ _ rfl rfl
   have e15:a.eval (.tmp 15)=.slice A10 Y.length c10:=E 15 rfl
   exact Rgs.val rfl (Reg.wanted_if rfl rfl dg rfl) (.slice A10 Y.length c10) (by have c:=Reg.consts a;generalize a.eval=ρ at *;simp[execOp,go_sem,c.1,c.2,e15]) rfl hW
  ·have dg:a.eval (.tmp 70)=.bool true:=D 18 rfl _ _ rfl rfl
   have d19:a.eval (.tmp 71)=.slice A9 Y.length c9:=D 19 rfl _ _ rfl rfl
   have d20:a.eval (.tmp 72)=.slice A10 Y.length c10:=D 20 rfl _ _ rfl rfl
   have dg:a.eval (.tmp 70)=.bool true:=D 18 rfl _ _ rfl rfl
   have d19:a.eval (.tmp 71)=.slice A9 Y.length c9:=D 19 rfl _ _ rfl rfl
   have d20:a.eval (.tmp 72)=.slice A10 Y.length c10:=D 20 rfl _ _ rfl rfl
   refine Rgs.call rfl (Reg.wanted_if rfl rfl dg rfl) 28 #[.slice A9 Y.length c9,.slice A10 Y.length c10] (by have c:=Reg.consts a;generalize a.eval=ρ at *;simp[execOp,go_sem,c.1,c.2,d19,d20]) ?_
   refine(HS3.out w1 hW).mono ?_
   rintro e w5 ⟨rfl,hb5⟩
   exact⟨_,rfl,rfl,hW.trans (hb5.mono hW.size),fun _ _ _ h=>h⟩
  ·have d18:a.eval (.tmp 70)=.bool true:=D 18 rfl _ _ rfl rfl
   have d21:a.eval (.tmp 73)=.bool true:=D 21 rfl _ _ rfl rfl
   exact Rgs.val rfl (Reg.wanted_free rfl) (.bool true) (by have c:=Reg.consts a;generalize a.eval=ρ at *;simp[execOp,go_sem,c.1,c.2,d18,d21]) rfl hW
  ·have d22:a.eval (.tmp 74)=.bool true:=D 22 rfl _ _ rfl rfl
   exact Rgs.val rfl (Reg.wanted_free rfl) (.bool true) (by have c:=Reg.consts a;generalize a.eval=ρ at *;simp[execOp,go_sem,c.1,c.2,d22]) rfl hW
  ·have dg:a.eval (.tmp 75)=.bool true:=D 23 rfl _ _ rfl rfl
   have e14:a.eval (.tmp 14)=.bool db:=E 14 rfl
   exact Rgs.val rfl (Reg.wanted_if rfl rfl dg rfl) (.bool db) (by have c:=Reg.consts a;generalize a.eval=ρ at *;simp[execOp,go_sem,c.1,c.2,e14]) rfl hW
  ·have dg:a.eval (.tmp 75)=.bool true:=D 23 rfl _ _ rfl rfl
   have e16:a.eval (.tmp 16)=.bool db:=E 16 rfl
   exact Rgs.val rfl (Reg.wanted_if rfl rfl dg rfl) (.bool db) (by have c:=Reg.consts a;generalize a.eval=ρ at *;simp[execOp,go_sem,c.1,c.2,e16]) rfl hW
  ·have dg:a.eval (.tmp 75)=.bool true:=D 23 rfl _ _ rfl rfl
   have d24:a.eval (.tmp 76)=.bool db:=D 24 rfl _ _ rfl rfl
   have d25:a.eval (.tmp 77)=.bool db:=D 25 rfl _ _ rfl rfl
   exact Rgs.val rfl (Reg.wanted_if rfl rfl dg rfl) (.bool true) (by have c:=Reg.consts a;generalize a.eval=ρ at *;simp[execOp,go_sem,c.1,c.2,d24,d25]) rfl hW
  ·have d23:a.eval (.tmp 75)=.bool true:=D 23 rfl _ _ rfl rfl
   have d26:a.eval (.tmp 78)=.bool true:=D 26 rfl _ _ rfl rfl
   exact Rgs.val rfl (Reg.wanted_free rfl) (.bool true) (by have c:=Reg.consts a;generalize a.eval=ρ at *;simp[execOp,go_sem,c.1,c.2,d23,d26]) rfl hW
  ·have d27:a.eval (.tmp 79)=.bool true:=D 27 rfl _ _ rfl rfl
   exact Rgs.val rfl (Reg.wanted_free rfl) (.bool true) (by have c:=Reg.consts a;generalize a.eval=ρ at *;simp[execOp,go_sem,c.1,c.2,d27]) rfl hW
  ·have dg:a.eval (.tmp 80)=.bool true:=D 28 rfl _ _ rfl rfl
   have e2:a.eval (.tmp 2)=.pointer (some ⟨gc,0,none⟩):=E 2 rfl
   have hc0:=(hW.cell (p:=⟨gc,0,none⟩) (World.block_lt_of_cell? _ _ m0)).trans m0
   have hc1:=(hW.cell (p:=⟨gc,1,none⟩) (World.block_lt_of_cell? _ _ m1)).trans m1
   have hc2:=(hW.cell (p:=⟨gc,2,none⟩) (World.block_lt_of_cell? _ _ m2)).trans m2
   exact Rgs.val rfl (Reg.wanted_if rfl rfl dg rfl) (.agg #[.slice A1 n1 c1,.slice A2 n2 c2,.slice A3 n3 c3]) (by have c:=Reg.consts a;generalize a.eval=ρ at *;simp[execOp,go_sem,c.1,c.2,e2,hc0,hc1,hc2]) rfl hW
  ·have dg:a.eval (.tmp 80)=.bool true:=D 28 rfl _ _ rfl rfl
   have e1:a.eval (.tmp 1)=.slice A L.length c:=E 1 rfl
   exact Rgs.val rfl (Reg.wanted_if rfl rfl dg rfl) (.slice A L.length c) (by have c:=Reg.consts a;generalize a.eval=ρ at *;simp[execOp,go_sem,c.1,c.2,e1]) rfl hW
  ·have dg:a.eval (.tmp 80)=.bool true:=D 28 rfl _ _ rfl rfl
   have d29:a.eval (.tmp 81)=.agg #[.slice A1 n1 c1,.slice A2 n2 c2,.slice A3 n3 c3]:=D 29 rfl _ _ rfl rfl
   have d30:a.eval (.tmp 82)=.slice A L.length c:=D 30 rfl _ _ rfl rfl
   have dg:a.eval (.tmp 80)=.bool true:=D 28 rfl _ _ rfl rfl
   have d29:a.eval (.tmp 81)=.agg #[.slice A1 n1 c1,.slice A2 n2 c2,.slice A3 n3 c3]:=D 29 rfl _ _ rfl rfl
   have d30:a.eval (.tmp 82)=.slice A L.length c:=D 30 rfl _ _ rfl rfl
   refine Rgs.call rfl (Reg.wanted_if rfl rfl dg rfl) 27 #[.agg #[.slice A1 n1 c1,.slice A2 n2 c2,.slice A3 n3 c3],.slice A L.length c] (by have c:=Reg.consts a;generalize a.eval=ρ at *;simp[execOp,go_sem,c.1,c.2,d29,d30]) ?_
   refine(HL1.out w1 hW).mono ?_
   rintro e w5 ⟨rfl,hb5⟩
   exact⟨_,rfl,rfl,hW.trans (hb5.mono hW.size),fun _ _ _ h=>h⟩
  ·have dg:a.eval (.tmp 80)=.bool true:=D 28 rfl _ _ rfl rfl
   have e2:a.eval (.tmp 2)=.pointer (some ⟨gc,0,none⟩):=E 2 rfl
   have hc0:=(hW.cell (p:=⟨gc,0,none⟩) (World.block_lt_of_cell? _ _ m0)).trans m0
   have hc1:=(hW.cell (p:=⟨gc,1,none⟩) (World.block_lt_of_cell? _ _ m1)).trans m1
   have hc2:=(hW.cell (p:=⟨gc,2,none⟩) (World.block_lt_of_cell? _ _ m2)).trans m2
   exact Rgs.val rfl (Reg.wanted_if rfl rfl dg rfl) (.agg #[.slice A1 n1 c1,.slice A2 n2 c2,.slice A3 n3 c3]) (by have c:=Reg.consts a;generalize a.eval=ρ at *;simp[execOp,go_sem,c.1,c.2,e2,hc0,hc1,hc2]) rfl hW
  ·have dg:a.eval (.tmp 80)=.bool true:=D 28 rfl _ _ rfl rfl
   have e1:a.eval (.tmp 1)=.slice A L.length c:=E 1 rfl
   exact Rgs.val rfl (Reg.wanted_if rfl rfl dg rfl) (.slice A L.length c) (by have c:=Reg.consts a;generalize a.eval=ρ at *;simp[execOp,go_sem,c.1,c.2,e1]) rfl hW
  ·have dg:a.eval (.tmp 80)=.bool true:=D 28 rfl _ _ rfl rfl
   have d32:a.eval (.tmp 84)=.agg #[.slice A1 n1 c1,.slice A2 n2 c2,.slice A3 n3 c3]:=D 32 rfl _ _ rfl rfl
   have d33:a.eval (.tmp 85)=.slice A L.length c:=D 33 rfl _ _ rfl rfl
   have dg:a.eval (.tmp 80)=.bool true:=D 28 rfl _ _ rfl rfl
   have d32:a.eval (.tmp 84)=.agg #[.slice A1 n1 c1,.slice A2 n2 c2,.slice A3 n3 c3]:=D 32 rfl _ _ rfl rfl
   have d33:a.eval (.tmp 85)=.slice A L.length c:=D 33 rfl _ _ rfl rfl
   refine Rgs.call rfl (Reg.wanted_if rfl rfl dg rfl) 25 #[.agg #[.slice A1 n1 c1,.slice A2 n2 c2,.slice A3 n3 c3],.slice A L.length c] (by have c:=Reg.consts a;generalize a.eval=ρ at *;simp[execOp,go_sem,c.1,c.2,d32,d33]) ?_
   refine(HL2.out w1 hW).mono ?_
   rintro e w5 ⟨rfl,hb5⟩
   exact⟨_,rfl,rfl,hW.trans (hb5.mono hW.size),fun _ _ _ h=>h⟩
  ·have dg:a.eval (.tmp 80)=.bool true:=D 28 rfl _ _ rfl rfl
   have d31:a.eval (.tmp 83)=.bool (!db):=D 31 rfl _ _ rfl rfl
   have d34:a.eval (.tmp 86)=.bool (!db):=D 34 rfl _ _ rfl rfl
   exact Rgs.val rfl (Reg.wanted_if rfl rfl dg rfl) (.bool true) (by have c:=Reg.consts a;generalize a.eval=ρ at *;simp[execOp,go_sem,c.1,c.2,d31,d34]) rfl hW
  ·have d28:a.eval (.tmp 80)=.bool true:=D 28 rfl _ _ rfl rfl
   have d35:a.eval (.tmp 87)=.bool true:=D 35 rfl _ _ rfl rfl
   exact Rgs.val rfl (Reg.wanted_free rfl) (.bool true) (by have c:=Reg.consts a;generalize a.eval=ρ at *;simp[execOp,go_sem,c.1,c.2,d28,d35]) rfl hW
  ·have d36:a.eval (.tmp 88)=.bool true:=D 36 rfl _ _ rfl rfl
   exact Rgs.val rfl (Reg.wanted_free rfl) (.bool true) (by have c:=Reg.consts a;generalize a.eval=ρ at *;simp[execOp,go_sem,c.1,c.2,d36]) rfl hW
  ·have dg:a.eval (.tmp 89)=.bool true:=D 37 rfl _ _ rfl rfl
   have e2:a.eval (.tmp 2)=.pointer (some ⟨gc,0,none⟩):=E 2 rfl
   have hc0:=(hW.cell (p:=⟨gc,0,none⟩) (World.block_lt_of_cell? _ _ m0)).trans m0
   have hc1:=(hW.cell (p:=⟨gc,1,none⟩) (World.block_lt_of_cell? _ _ m1)).trans m1
   have hc2:=(hW.cell (p:=⟨gc,2,none⟩) (World.block_lt_of_cell? _ _ m2)).trans m2
   exact Rgs.val rfl (Reg.wanted_if rfl rfl dg rfl) (.agg #[.slice A1 n1 c1,.slice A2 n2 c2,.slice A3 n3 c3]) (by have c:=Reg.consts a;generalize a.eval=ρ at *;simp[execOp,go_sem,c.1,c.2,e2,hc0,hc1,hc2]) rfl hW
  ·have dg:a.eval (.tmp 89)=.bool true:=D 37 rfl _ _ rfl rfl
   have e1:a.eval (.tmp 1)=.slice A L.length c:=E 1 rfl
   exact Rgs.val rfl (Reg.wanted_if rfl rfl dg rfl) (.slice A L.length c) (by have c:=Reg.consts a;generalize a.eval=ρ at *;simp[execOp,go_sem,c.1,c.2,e1]) rfl hW
  ·have dg:a.eval (.tmp 89)=.bool true:=D 37 rfl _ _ rfl rfl
   have e7:a.eval (.tmp 7)=.slice A6 R.length c6:=E 7 rfl
   exact Rgs.val rfl (Reg.wanted_if rfl rfl dg rfl) (.slice A6 R.length c6) (by have c:=Reg.consts a;generalize a.eval=ρ at *;simp[execOp,go_sem,c.1,c.2,e7]) rfl hW
  ·have dg:a.eval (.tmp 89)=.bool true:=D 37 rfl _ _ rfl rfl
   have d38:a.eval (.tmp 90)=.agg #[.slice A1 n1 c1,.slice A2 n2 c2,.slice A3 n3 c3]:=D 38 rfl _ _ rfl rfl
   have d39:a.eval (.tmp 91)=.slice A L.length c:=D 39 rfl _ _ rfl rfl
   have d40:a.eval (.tmp 92)=.slice A6 R.length c6:=D 40 rfl _ _ rfl rfl
   have dg:a.eval (.tmp 89)=.bool true:=D 37 rfl _ _ rfl rfl
   have d38:a.eval (.tmp 90)=.agg #[.slice A1 n1 c1,.slice A2 n2 c2,.slice A3 n3 c3]:=D 38 rfl _ _ rfl rfl
   have d39:a.eval (.tmp 91)=.slice A L.length c:=D 39 rfl _ _ rfl rfl
   have d40:a.eval (.tmp 92)=.slice A6 R.length c6:=D 40 rfl _ _ rfl rfl
   refine Rgs.call rfl (Reg.wanted_if rfl rfl dg rfl) 29 #[.agg #[.slice A1 n1 c1,.slice A2 n2 c2,.slice A3 n3 c3],.slice A L.length c,.slice A6 R.length c6] (by have c:=Reg.consts a;generalize a.eval=ρ at *;simp[execOp,go_sem,c.1,c.2,d38,d39,d40]) ?_
   refine(HV1.out w1 hW).mono ?_
   rintro e w5 ⟨rfl,hb5⟩
   exact⟨_,rfl,rfl,hW.trans (hb5.mono hW.size),fun _ _ _ h=>h⟩
  ·have dg:a.eval (.tmp 89)=.bool true:=D 37 rfl _ _ rfl rfl
   have e2:a.eval (.tmp 2)=.pointer (some ⟨gc,0,none⟩):=E 2 rfl
   have hc0:=(hW.cell (p:=⟨gc,0,none⟩) (World.block_lt_of_cell? _ _ m0)).trans m0
   have hc1:=(hW.cell (p:=⟨gc,1,none⟩) (World.block_lt_of_cell? _ _ m1)).trans m1
   have hc2:=(hW.cell (p:=⟨gc,2,none⟩) (World.block_lt_of_cell? _ _ m2)).trans m2
   exact Rgs.val rfl (Reg.wanted_if rfl rfl dg rfl) (.agg #[.slice A1 n1 c1,.slice A2 n2 c2,.slice A3 n3 c3]) (by have c:=Reg.consts a;generalize a.eval=ρ at *;simp[execOp,go_sem,c.1,c.2,e2,hc0,hc1,hc2]) rfl hW
  ·have dg:a.eval (.tmp 89)=.bool true:=D 37 rfl _ _ rfl rfl
   have e1:a.eval (.tmp 1)=.slice A L.length c:=E 1 rfl
   exact Rgs.val rfl (Reg.wanted_if rfl rfl dg rfl) (.slice A L.length c) (by have c:=Reg.consts a;generalize a.eval=ρ at *;simp[execOp,go_sem,c.1,c.2,e1]) rfl hW
  ·have dg:a.eval (.tmp 89)=.bool true:=D 37 rfl _ _ rfl rfl
   have e7:a.eval (.tmp 7)=.slice A6 R.length c6:=E 7 rfl
   exact Rgs.val rfl (Reg.wanted_if rfl rfl dg rfl) (.slice A6 R.length c6) (by have c:=Reg.consts a;generalize a.eval=ρ at *;simp[execOp,go_sem,c.1,c.2,e7]) rfl hW
  ·have dg:a.eval (.tmp 89)=.bool true:=D 37 rfl _ _ rfl rfl
   have d42:a.eval (.tmp 94)=.agg #[.slice A1 n1 c1,.slice A2 n2 c2,.slice A3 n3 c3]:=D 42 rfl _ _ rfl rfl
   have d43:a.eval (.tmp 95)=.slice A L.length c:=D 43 rfl _ _ rfl rfl
   have d44:a.eval (.tmp 96)=.slice A6 R.length c6:=D 44 rfl _ _ rfl rfl
   have dg:a.eval (.tmp 89)=.bool true:=D 37 rfl _ _ rfl rfl
   have d42:a.eval (.tmp 94)=.agg #[.slice A1 n1 c1,.slice A2 n2 c2,.slice A3 n3 c3]:=D 42 rfl _ _ rfl rfl
   have d43:a.eval (.tmp 95)=.slice A L.length c:=D 43 rfl _ _ rfl rfl
   have d44:a.eval (.tmp 96)=.slice A6 R.length c6:=D 44 rfl _ _ rfl rfl
   refine Rgs.call rfl (Reg.wanted_if rfl rfl dg rfl) 38 #[.agg #[.slice A1 n1 c1,.slice A2 n2 c2,.slice A3 n3 c3],.slice A L.length c,.slice A6 R.length c6] (by have c:=Reg.consts a;generalize a.eval=ρ at *;simp[execOp,go_sem,c.1,c.2,d42,d43,d44]) ?_
   refine(HV2.out w1 hW).mono ?_
   rintro e w5 ⟨rfl,hb5⟩
   exact⟨_,rfl,rfl,hW.trans (hb5.mono hW.size),fun _ _ _ h=>h⟩
  ·have dg:a.eval (.tmp 89)=.bool true:=D 37 rfl _ _ rfl rfl
   have d41:a.eval (.tmp 93)=.bool v1:=D 41 rfl _ _ rfl rfl
   have d45:a.eval (.tmp 97)=.bool v1:=D 45 rfl _ _ rfl rfl
   exact Rgs.val rfl (Reg.wanted_if rfl rfl dg rfl) (.bool true) (by have c:=Reg.consts a;generalize a.eval=ρ at *;simp[execOp,go_sem,c.1,c.2,d41,d45]) rfl hW
  ·have d37:a.eval (.tmp 89)=.bool true:=D 37 rfl _ _ rfl rfl
   have d46:a.eval (.tmp 98)=.bool true:=D 46 rfl _ _ rfl rfl
   exact Rgs.val rfl (Reg.wanted_free rfl) (.bool true) (by have c:=Reg.consts a;generalize a.eval=ρ at *;simp[execOp,go_sem,c.1,c.2,d37,d46]) rfl hW
  ·have d47:a.eval (.tmp 99)=.bool true:=D 47 rfl _ _ rfl rfl
   exact Rgs.val rfl (Reg.wanted_free rfl) (.bool true) (by have c:=Reg.consts a;generalize a.eval=ρ at *;simp[execOp,go_sem,c.1,c.2,d47]) rfl hW
  ·have dg:a.eval (.tmp 100)=.bool true:=D 48 rfl _ _ rfl rfl
   have e2:a.eval (.tmp 2)=.pointer (some ⟨gc,0,none⟩):=E 2 rfl
   have hc0:=(hW.cell (p:=⟨gc,0,none⟩) (World.block_lt_of_cell? _ _ m0)).trans m0
   have hc1:=(hW.cell (p:=⟨gc,1,none⟩) (World.block_lt_of_cell? _ _ m1)).trans m1
   have hc2:=(hW.cell (p:=⟨gc,2,none⟩) (World.block_lt_of_cell? _ _ m2)).trans m2
   exact Rgs.val rfl (Reg.wanted_if rfl rfl dg rfl) (.agg #[.slice A1 n1 c1,.slice A2 n2 c2,.slice A3 n3 c3]) (by have c:=Reg.consts a;generalize a.eval=ρ at *;simp[execOp,go_sem,c.1,c.2,e2,hc0,hc1,hc2]) rfl hW
  ·have dg:a.eval (.tmp 100)=.bool true:=D 48 rfl _ _ rfl rfl
   have e1:a.eval (.tmp 1)=.slice A L.length c:=E 1 rfl
   exact Rgs.val rfl (Reg.wanted_if rfl rfl dg rfl) (.slice A L.length c) (by have c:=Reg.consts a;generalize a.eval=ρ at *;simp[execOp,go_sem,c.1,c.2,e1]) rfl hW
  ·have dg:a.eval (.tmp 100)=.bool true:=D 48 rfl _ _ rfl rfl
   have e15:a.eval (.tmp 15)=.slice A10 Y.length c10:=E 15 rfl
   exact Rgs.val rfl (Reg.wanted_if rfl rfl dg rfl) (.slice A10 Y.length c10) (by have c:=Reg.consts a;generalize a.eval=ρ at *;simp[execOp,go_sem,c.1,c.2,e15]) rfl hW
  ·have dg:a.eval (.tmp 100)=.bool true:=D 48 rfl _ _ rfl rfl
   have d49:a.eval (.tmp 101)=.agg #[.slice A1 n1 c1,.slice A2 n2 c2,.slice A3 n3 c3]:=D 49 rfl _ _ rfl rfl
   have d50:a.eval (.tmp 102)=.slice A L.length c:=D 50 rfl _ _ rfl rfl
   have d51:a.eval (.tmp 103)=.slice A10 Y.length c10:=D 51 rfl _ _ rfl rfl
   have dg:a.eval (.tmp 100)=.bool true:=D 48 rfl _ _ rfl rfl
   have d49:a.eval (.tmp 101)=.agg #[.slice A1 n1 c1,.slice A2 n2 c2,.slice A3 n3 c3]:=D 49 rfl _ _ rfl rfl
   have d50:a.eval (.tmp 102)=.slice A L.length c:=D 50 rfl _ _ rfl rfl
   have d51:a.eval (.tmp 103)=.slice A10 Y.length c10:=D 51 rfl _ _ rfl rfl
   refine Rgs.call rfl (Reg.wanted_if rfl rfl dg rfl) 29 #[.agg #[.slice A1 n1 c1,.slice A2 n2 c2,.slice A3 n3 c3],.slice A L.length c,.slice A10 Y.length c10] (by have c:=Reg.consts a;generalize a.eval=ρ at *;simp[execOp,go_sem,c.1,c.2,d49,d50,d51]) ?_
   refine(HV3.out w1 hW).mono ?_
   rintro e w5 ⟨rfl,hb5⟩
   exact⟨_,rfl,rfl,hW.trans (hb5.mono hW.size),fun _ _ _ h=>h⟩
  ·have dg:a.eval (.tmp 100)=.bool true:=D 48 rfl _ _ rfl rfl
   have e2:a.eval (.tmp 2)=.pointer (some ⟨gc,0,none⟩):=E 2 rfl
   have hc0:=(hW.cell (p:=⟨gc,0,none⟩) (World.block_lt_of_cell? _ _ m0)).trans m0
   have hc1:=(hW.cell (p:=⟨gc,1,none⟩) (World.block_lt_of_cell? _ _ m1)).trans m1
   have hc2:=(hW.cell (p:=⟨gc,2,none⟩) (World.block_lt_of_cell? _ _ m2)).trans m2
   exact Rgs.val rfl (Reg.wanted_if rfl rfl dg rfl) (.agg #[.slice A1 n1 c1,.slice A2 n2 c2,.slice A3 n3 c3]) (by have c:=Reg.consts a;generalize a.eval=ρ at *;simp[execOp,go_sem,c.1,c.2,e2,hc0,hc1,hc2]) rfl hW
  ·have dg:a.eval (.tmp 100)=.bool true:=D 48 rfl _ _ rfl rfl
   have e1:a.eval (.tmp 1)=.slice A L.length c:=E 1 rfl
   exact Rgs.val rfl (Reg.wanted_if rfl rfl dg rfl) (.slice A L.length c) (by have c:=Reg.consts a;generalize a.eval=ρ at *;simp[execOp,go_sem,c.1,c.2,e1]) rfl hW
  ·have dg:a.eval (.tmp 100)=.bool true:=D 48 rfl _ _ rfl rfl
   have e15:a.eval (.tmp 15)=.slice A10 Y.length c10:=E 15 rfl
   exact Rgs.val rfl (Reg.wanted_if rfl rfl dg rfl) (.slice A10 Y.length c10) (by have c:=Reg.consts a;generalize a.eval=ρ at *;simp[execOp,go_sem,c.1,c.2,e15]) rfl hW
  ·have dg:a.eval (.tmp 100)=.bool true:=D 48 rfl _ _ rfl rfl
   have d53:a.eval (.tmp 105)=.agg #[.slice A1 n1 c1,.slice A2 n2 c2,.slice A3 n3 c3]:=D 53 rfl _ _ rfl rfl
   have d54:a.eval (.tmp 106)=.slice A L.length c:=D 54 rfl _ _ rfl rfl
   have d55:a.eval (.tmp 107)=.slice A10 Y.length c10:=D 55 rfl _ _ rfl rfl
   have dg:a.eval (.tmp 100)=.bool true:=D 48 rfl _ _ rfl rfl
   have d53:a.eval (.tmp 105)=.agg #[.slice A1 n1 c1,.slice A2 n2 c2,.slice A3 n3 c3]:=D 53 rfl _ _ rfl rfl
   have d54:a.eval (.tmp 106)=.slice A L.length c:=D 54 rfl _ _ rfl rfl
   have d55:a.eval (.tmp 107)=.slice A10 Y.length c10:=D 55 rfl _ _ rfl rfl
   refine Rgs.call rfl (Reg.wanted_if rfl rfl dg rfl) 38 #[.agg #[.slice A1 n1 c1,.slice A2 n2 c2,.slice A3 n3 c3],.slice A L.length c,.slice A10 Y.length c10] (by have c:=Reg.consts a;generalize a.eval=ρ at *;simp[execOp,go_sem,c.1,c.2,d53,d54,d55]) ?_
   refine(HV4.out w1 hW).mono ?_
   rintro e w5 ⟨rfl,hb5⟩
   exact⟨_,rfl,rfl,hW.trans (hb5.mono hW.size),fun _ _ _ h=>h⟩
  ·have dg:a.eval (.tmp 100)=.bool true:=D 48 rfl _ _ rfl rfl
   have d52:a.eval (.tmp 104)=.bool v2:=D 52 rfl _ _ rfl rfl
   have d56:a.eval (.tmp 108)=.bool v2:=D 56 rfl _ _ rfl rfl
   exact Rgs.val rfl (Reg.wanted_if rfl rfl dg rfl) (.bool true) (by have c:=Reg.consts a;generalize a.eval=ρ at *;simp[execOp,go_sem,c.1,c.2,d52,d56]) rfl hW
  ·have d48:a.eval (.tmp 100)=.bool true:=D 48 rfl _ _ rfl rfl
   have d57:a.eval (.tmp 109)=.bool true:=D 57 rfl _ _ rfl rfl
   exact Rgs.val rfl (Reg.wanted_free rfl) (.bool true) (by have c:=Reg.consts a;generalize a.eval=ρ at *;simp[execOp,go_sem,c.1,c.2,d48,d57]) rfl hW
  ·have d58:a.eval (.tmp 110)=.bool true:=D 58 rfl _ _ rfl rfl
   exact Rgs.val rfl (Reg.wanted_free rfl) (.bool true) (by have c:=Reg.consts a;generalize a.eval=ρ at *;simp[execOp,go_sem,c.1,c.2,d58]) rfl hW
 ·intro a w9 live hs hd E Dv Hl hW
  have e4:a.eval (.tmp 4)=.bool true:=by
   obtain⟨v,hv,he⟩:=Dv 59 _ rfl
   exact(he 4 rfl).trans hv
  rw[Reg.act_lit a 111 hs,hd]
  simp only[List.range,List.range.loop,List.map,e4]
  have HB9:=hid (HFF.out.trans (hW.mono (Nat.le_trans HFF.out.size (Nat.le_refl _))))
  clear E Dv Hl hW e4 m0 m1 m2
  generalize a.eval=ρ
  clear a hs hd
  go_wp2_with fail
  go_ret
  exact Ans.mk rfl HB9.out
end Go.Proofs.YtfddpnhaejkacaaGreat
