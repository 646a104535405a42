import Derived.Test.YtfddpnhaejkacaaGreatLow2
import Derived.Test.YtfddpnhaejkacaaGreatSn
import Derived.Test.YtfddpnhaejkacaaGreatRv
import Derived.Test.YtfddpnhaejkacaaGreatRu
namespace Go.Proofs.YtfddpnhaejkacaaGreat.reduceWorse
open Lib (hid)
open Go.ChangeShapes Go.WideShapes Go.ChangeAt Go.RowKit Tab
set_option linter.unusedSimpArgs false
set_option linter.unusedVariables false
theorem six {w:World} {g mv rn ws nd wn:Nat} {kp:Bool} (h:Vec w g 6 (fun j=>if j=0 then .int .i64 mv else if j=1 then .int .i64 rn else if j=2 then .int .i64 ws else if j=3 then .int .i64 nd else if j=4 then .int .i64 wn else .bool kp)) :
  w.cell? ⟨g,0,none⟩=some (.int .i64 mv)∧w.cell? ⟨g,1,none⟩=some (.int .i64 rn)∧w.cell? ⟨g,2,none⟩=some (.int .i64 ws)∧w.cell? ⟨g,3,none⟩=some (.int .i64 nd)∧w.cell? ⟨g,4,none⟩=some (.int .i64 wn)∧w.cell? ⟨g,5,none⟩=some (.bool kp) :=
 ⟨(h.cell 0 (by omega)).trans rfl,(h.cell 1 (by omega)).trans rfl,(h.cell 2 (by omega)).trans rfl,(h.cell 3 (by omega)).trans rfl,(h.cell 4 (by omega)).trans rfl,(h.cell 5 (by omega)).trans rfl⟩
set_option maxRecDepth 100000 in
set_option maxHeartbeats 8000000 in
theorem walk (H:ReduceW 41) (A0:Option Addr) (n0 k0:Nat) (f0:Nat→Int) (w:World) (r0:RdC w w.heap.size A0 n0 fun j=>.int .i64 (f0 j)) (c0:n0≤k0) (b0:k0≤140737488351232) :
  Calls Tryz.prog 5 #[.slice A0 n0 k0] w (Ans (.bool true) w):=by
 have HCB:=hid (config_boxy A0 n0 k0 f0 w r0 (by omega))
 clear r0
 go_enter Tryz.func5,Tryz.ntmps5
 go_wp2_with fail
 refine HCB.out.mono ?_
 rintro e w1 ⟨A1,A2,A3,n1,n2,n3,c1,c2,c3,P,C,T,rfl,hCf,q1,q2,q3,q4,q5,hT,hTt,q6,q7,q8,hper,hb1⟩
 have hbl:=bl1 w1 (.cells #[.slice A1 n1 c1,.slice A2 n2 c2,.slice A3 n3 c3] 31)
 have hbox:=box_vec w1 (.slice A1 n1 c1) (.slice A2 n2 c2) (.slice A3 n3 c3) 31
 have HB:=hid (hb1.trans (hbl.mono hb1.size))
 have HCF:=hid (hCf.on hbl)
 have HTB:=hid (hT.on hbl)
 have HTT:Hid (∀ t∈T,TbAt (w1.alloc (.cells #[.slice A1 n1 c1,.slice A2 n2 c2,.slice A3 n3 c3] 31)) (w1.alloc (.cells #[.slice A1 n1 c1,.slice A2 n2 c2,.slice A3 n3 c3] 31)).heap.size t∧Frame t∧holdsF (wordsL (rowF t)) P C=0):=hid fun t ht=>⟨(hTt t ht).1.on hbl,(hTt t ht).2⟩
 have HPE:=hid hper
 clear hCf hT hTt hper hb1 hbl HCB
 go_upto_region 2 with fail
 generalize w1.alloc (.cells #[.slice A1 n1 c1,.slice A2 n2 c2,.slice A3 n3 c3] 31)=W at hbox HB HCF HTB HTT ⊢
 generalize w1.heap.size=gc at hbox ⊢
 have HBX:=hid fun V (hv:Below W.heap.size W V)=>(hbox.on hv).three
 clear hbox
 obtain⟨m0,m1,m2⟩:=HBX.out W (Below.refl _ _)
 go_wp2_with fail
 clear m0 m1 m2
 have hPl:P.length=n1:=HCF.out.p.len
 go_loopw [5,6,7,8,9,10,11,12,13,21] (fun _ _ _ _ _ _ _ _ _ s wr=>∃ i:Nat,i≤n3∧s=.int .i64 i∧Below W.heap.size W wr) (fun _ _ _ _ _ _ _ _ _ s _=>n3 - (intOf s).toNat)
 case atStart=>exact⟨0,by omega,rfl,Below.refl _ _⟩
 case round =>
  obtain⟨i,hi,rfl,hb⟩:=hrel
  have HK:=hid hb
  obtain⟨wq,hwq⟩:∃ wq,wq=wr:=⟨_,rfl⟩
  subst hwq
  by_cases hlt:i < n3
  ·have hlti:(i:Int) < (n3:Int):=by omega
   obtain⟨ad3,t0,rfl,_,ht0,hc0,_⟩:=(HTB.out.on hb).at_ tcl_len (by omega) hlt
   have hd0:=hc0 _ rfl
   rw[Nat.mul_one] at hd0
   obtain⟨htt,hfr,hhk⟩:=HTT.out t0 (List.mem_of_getElem? ht0)
   have htt2:=htt.on hb
   have HTQ:=hid htt2
   have hX:=frm_row htt hfr
   have htX:=tidy_row t0
   obtain⟨now,Z,r,htd⟩:=told_t htt hfr hhk
   have HTA:=hid (H.table A1 A2 (some ad3) t0.A n1 n2 n3 t0.n c1 c2 c3 t0.c P C (t0.x::t0.k.flat) (rowF t0) 0 wq (HCF.out.on hb) htt2.rd (by omega) q4 (by omega) htt2.cap htt2.few HPE.out (fun _=>hX) fun V hv=>tb_of (htt2.on hv) hfr)
   rw[htd.eq] at HTA
   have HOA:=hid fun V (hv:Below wq.heap.size wq V)=>tb_rof (htt2.on hv) hfr
   obtain⟨m0,m1,m2⟩:=HBX.out wq hb
   have hlen:=htd.len
   rw[htt.rd.len] at hlen
   have hcap:=htt.cap
   have hfew:=htt.few
   have HPF:=hid fun A c V (hr:RdN V V.heap.size A now.length now) (hc:now.length≤c)=>htd.rof A now.length c V hr hc (by omega)
   have HTD:=hid htd
   have HFX:=hid hX
   have hZt:tidy Z=Z:=by
    obtain⟨x,k,_,_,e,_⟩:=htd.tbl
    rw[← e,tidy_tidy]
   have HZT:=hid hZt
   have HXT:=hid htX
   have HSM:Hid ((diffF (depW n1 (depF (P.map ptOf) (C.map chOf))) (rowF t0) Z).2.2=false):=hid (by
    have:=htd.same
    unfold depP at this
    rw[hPl] at this
    exact(diffF_same _ _ _).2 this)
   obtain⟨X,hXX⟩:∃ X,X=rowF t0:=⟨_,rfl⟩
   rw[← hXX] at HOA HTD HFX HXT HSM
   obtain⟨tA,tn,tc,tx,tk⟩:=t0
   dsimp only at hd0 HTA HOA HTD HTQ hlen hcap hfew
   clear hb ht0 hc0 htt hfr hhk htt2 htd hX htX hXX hZt
   go_wp2_with fail
   refine HTA.out.mono ?_
   rintro e w2 ⟨A5,c5,rfl,hr5,hc5,hb5⟩
   obtain⟨mv,rn,ws,nd,wn,kp⟩:=r
   dsimp only[Rep.v] at hr5 hc5 ⊢
   have HR5:=hid hr5
   have HK2:=hid (HK.out.trans (hb5.mono HK.out.size))
   have HQ2:=hid hb5
   clear hr5 hb5 m0 m1 m2 HTA
   go_upto_region 6 with fail
   have hv1:Vec (w2.alloc (.cells #[.int .i64 mv,.int .i64 rn,.int .i64 ws,.int .i64 nd,.int .i64 wn,.bool kp] 45)) w2.heap.size 6 (fun j=>if j=0 then .int .i64 mv else if j=1 then .int .i64 rn else if j=2 then .int .i64 ws else if j=3 then .int .i64 nd else if j=4 then .int .i64 wn else .bool kp):=Vec.lit _ _ _ 6 _ fun j hj=>by rcases(by omega:j=0∨j=1∨j=2∨j=3∨j=4∨j=5) with rfl | rfl | rfl | rfl | rfl | rfl <;> rfl
   have HV1:=hid hv1
   have HB1:=hid (bl1 w2 (.cells #[.int .i64 mv,.int .i64 rn,.int .i64 ws,.int .i64 nd,.int .i64 wn,.bool kp] 45))
   clear hv1
   generalize w2.alloc (.cells #[.int .i64 mv,.int .i64 rn,.int .i64 ws,.int .i64 nd,.int .i64 wn,.bool kp] 45)=w3 at HV1 HB1 ⊢
   obtain⟨g1,hg1⟩:∃ g,g=w2.heap.size:=⟨_,rfl⟩
   rw[← hg1] at HV1 ⊢
   clear hg1
   have HK3:=hid (HK2.out.trans (HB1.out.mono HK2.out.size))
   have HQ3:=hid (HQ2.out.trans (HB1.out.mono HQ2.out.size))
   have HR6:=hid (HR5.out.on HB1.out)
   have HO1:=hid (HOA.out w3 HQ3.out)
   clear HB1
   go_wp2_with fail
   refine HO1.out.mono ?_
   rintro e w4 ⟨A8,m8,c8,rfl,hc8,hr8,hb8⟩
   have HRX:=hid (hr8 rfl)
   have hm8:=HRX.out.len
   subst hm8
   have HK4:=hid (HK3.out.trans (hb8.mono HK3.out.size))
   have HR7:=hid (HR6.out.on hb8)
   have HV4:=hid (HV1.out.on hb8)
   have HT4:=hid ((HTQ.out.on HQ3.out).on hb8)
   have HO2:=hid (HPF.out A5 c5 w4 HR7.out hc5)
   clear hr8 hb8 HO1 HV1 HR6 HQ3 HQ2 HTQ
   go_wp2_with fail
   refine HO2.out.mono ?_
   rintro e w5 ⟨A9,m9,c9,rfl,hc9,hr9,hb9⟩
   have HRZ:=hid (hr9 rfl)
   have hm9:=HRZ.out.len
   subst hm9
   have HK5:=hid (HK4.out.trans (hb9.mono HK4.out.size))
   have HRX5:=hid (HRX.out.on hb9)
   have HR8:=hid (HR7.out.on hb9)
   have HV5:=hid (HV4.out.on hb9)
   have HT5:=hid (HT4.out.on hb9)
   clear hr9 hb9 HO2 HV4 HR7 HK4 HT4 HRX
   have hlx:=HFX.out.le
   have hlz:=HTD.out.frm.le
   have htx:=HFX.out.tk
   have htz:=HTD.out.frm.tk
   have CTX:=hid fun V (hv:Below w5.heap.size w5 V)=>total_any A8 X.length c8 X V (HRX5.out.on hv) hc8 (by omega) (by omega)
   have CTZ:=hid fun V (hv:Below w5.heap.size w5 V)=>total_any A9 Z.length c9 Z V (HRZ.out.on hv) hc9 (by omega) (by omega)
   have CSX:=hid fun V (hv:Below w5.heap.size w5 V)=>rswitches_any A8 X.length c8 X V (HRX5.out.on hv) hc8 (by omega) (by omega)
   have CSZ:=hid fun V (hv:Below w5.heap.size w5 V)=>rswitches_any A9 Z.length c9 Z V (HRZ.out.on hv) hc9 (by omega) (by omega)
   have CHO:=hid fun V (hv:Below w5.heap.size w5 V)=>holdsx_any A1 A2 (some ad3) A9 n1 n2 n3 Z.length c1 c2 c3 c9 P C Z V (HCF.out.on (HK5.out.trans (hv.mono HK5.out.size))).p (HCF.out.on (HK5.out.trans (hv.mono HK5.out.size))).c (HRZ.out.on hv) (by omega) (by omega) hc9 (by omega) (by omega) HPE.out
   have CDP:=hid fun V (hv:Below w5.heap.size w5 V)=>rdepends_any A1 A2 (some ad3) n1 n2 n3 c1 c2 c3 P C V (HCF.out.on (HK5.out.trans (hv.mono HK5.out.size))) (by omega) (by omega)
   have CSA:=hid fun V (hv:Below w5.heap.size w5 V) (A7:Option Addr) (c7:Nat) (hm7:RdM V V.heap.size A7 n1 (fun _=>n1) (depF (P.map ptOf) (C.map chOf)))=>rsamew_any A8 A9 A7 X.length Z.length n1 c8 c9 c7 X Z (depF (P.map ptOf) (C.map chOf)) V (HRX5.out.on hv) (HRZ.out.on hv) hm7 hc8 hc9 (by omega) (by omega) (by omega) (by omega) (by omega)
   have CTK:=hid fun(p:Int) V (hv:Below w5.heap.size w5 V)=>xticks_any A8 X.length c8 X p V (HRX5.out.on hv) hc8 (by omega) (by omega)
   have CTL:=hid fun(p:Int) V (hv:Below w5.heap.size w5 V)=>xticks_any A9 Z.length c9 Z p V (HRZ.out.on hv) hc9 (by omega) (by omega)
   have CST:=hid fun V (hv:Below w5.heap.size w5 V)=>rstuck_any A1 A2 (some ad3) A9 n1 n2 n3 Z.length c1 c2 c3 c9 P C Z V (HCF.out.on (HK5.out.trans (hv.mono HK5.out.size))) (HRZ.out.on hv) (by omega) (by omega) hc9 (by omega) (by omega) HPE.out (fun r hr=>by have:=HTD.out.frm.all r hr;omega)
   have CNO:=hid fun V (hv:Below w5.heap.size w5 V)=>rnodes_any A5 tA now.length tn c5 tc now (tx::tk.flat) V (HR8.out.on hv) (HT5.out.on hv).rd (by omega)
   have HTK:=hid HTD.out.tk
   have hsw:=HTD.out.swi
   rw[HTD.out.ticks] at CTZ
   rw[HTD.out.holds] at CHO
   rw[HSM.out] at CSA
   rw[HZT.out] at CSZ
   rw[HXT.out] at CSX
   generalize ticks X=tt at CTX CTZ htx
   generalize swi X=sx at CSX hsw
   generalize swi Z=sz at CSZ hsw
   generalize hdb:drwB P C Z=db at CST
   generalize hnn:sameN now (tx::tk.flat)=nn at CNO
   have HDN:Hid (kp=false→db=false):=hid fun h=>by
    rw[← hdb]
    exact HTD.out.done h
   have HNN:Hid (kp=true→nn=true∧mv=0):=hid fun h=>by
    have h9:=HTD.out.kept h
    exact⟨by rw[← hnn];exact(sameN_iff _ _).2 h9.1,h9.2⟩
   have HE1:Hid (nd=now.length∧wn=tn∧ws=X.length∧rn=Z.length):=hid (by
    have e1:=HTD.out.nodes
    have e2:=HTD.out.wasn
    have e3:=HTD.out.was
    have e4:=HTD.out.runs
    dsimp only at e1 e2 e3 e4
    exact⟨e1,e2.trans HT5.out.rd.len,e3,e4⟩)
   obtain⟨xl,hxl⟩:∃ xl,xl=X.length:=⟨_,rfl⟩
   obtain⟨zl,hzl⟩:∃ zl,zl=Z.length:=⟨_,rfl⟩
   obtain⟨nl,hnl⟩:∃ nl,nl=now.length:=⟨_,rfl⟩
   rw[← hxl] at CTX CSX CSA CTK hlx hc8 HE1 ⊢
   rw[← hzl] at CTZ CSZ CHO CSA CTL CST hlz hc9 HE1 ⊢
   rw[← hnl] at CNO hlen hc5 HE1 ⊢
   clear hdb hnn hxl hzl hnl htz HTD HSM HZT HXT HRX5 HRZ HR8 HT5 HFX HPF HOA
   have hgt:¬ tn < nl:=by omega
   have hgti:¬ (tn:Int) < (nl:Int):=by omega
   have hswn:¬ sx < sz:=by omega
   have hswi:¬ (sx:Int) < (sz:Int):=by omega
   have hte:((tt:Int) == (tt:Int))=true:=beq_self_eq_true _
   have hC1:=hid (CTX.out w5 (Below.refl _ _))
   go_wp2_with fail
   refine hC1.out.mono ?_
   rintro e x1 ⟨rfl,hb1⟩
   have B1:=hid hb1
   have hC2:=hid (CTZ.out x1 B1.out)
   clear hb1 hC1
   go_wp2_with fail
   refine hC2.out.mono ?_
   rintro e x2 ⟨rfl,hb2⟩
   have B2:=hid (B1.out.trans (hb2.mono B1.out.size))
   have hC3:=hid (CSZ.out x2 B2.out)
   clear hb2 hC2
   go_wp2_with fail
   refine hC3.out.mono ?_
   rintro e x3 ⟨rfl,hb3⟩
   have B3:=hid (B2.out.trans (hb3.mono B2.out.size))
   have hC4:=hid (CSX.out x3 B3.out)
   clear hb3 hC3
   go_wp2_with fail
   refine hC4.out.mono ?_
   rintro e x4 ⟨rfl,hb4⟩
   have B4:=hid (B3.out.trans (hb4.mono B3.out.size))
   have hC5:=hid (CHO.out x4 B4.out)
   obtain⟨m0,m1,m2⟩:=HBX.out x4 (HK5.out.trans (B4.out.mono HK5.out.size))
   clear hb4 hC4
   go_wp2_with fail
   refine hC5.out.mono ?_
   rintro e x5 ⟨rfl,hb5⟩
   have B5:=hid (B4.out.trans (hb5.mono B4.out.size))
   have hC6:=hid (CDP.out x5 B5.out)
   clear hb5 hC5 m0 m1 m2
   obtain⟨m0,m1,m2⟩:=HBX.out x5 (HK5.out.trans (B5.out.mono HK5.out.size))
   go_wp2_with fail
   refine hC6.out.mono ?_
   intro e x6 hdm
   obtain⟨A7,c7,rfl,hc7,hm7,hb6⟩:=hdm.m
   have B6:=hid (B5.out.trans (hb6.mono B5.out.size))
   have hC7:=hid (CSA.out x6 B6.out A7 c7 hm7)
   clear hb6 hC6 m0 m1 m2 hdm hm7
   go_wp2_with fail
   refine hC7.out.mono ?_
   rintro e x7 ⟨rfl,hb7⟩
   have B7:=hid (B6.out.trans (hb7.mono B6.out.size))
   clear hb7 hC7
   go_wp2_with fail
   go_loopw [13] (fun s wy=>∃ q:Int,s=.int .i64 q∧-1≤q∧q≤n1∧Below x7.heap.size x7 wy) (fun s _=>((n1:Int) - intOf s).toNat)
   case atStart=>exact⟨-1,rfl,by omega,by omega,Below.refl _ _⟩
   case round =>
    obtain⟨q,rfl,hq1,hq2,hbq⟩:=hrel
    obtain⟨wy,hwy⟩:∃ wy,wy=wr:=⟨_,rfl⟩
    subst hwy
    have BQ:=hid (B7.out.trans (hbq.mono B7.out.size))
    have BX:=hid hbq
    obtain⟨m0,m1,m2⟩:=HBX.out wy (HK5.out.trans (BQ.out.mono HK5.out.size))
    clear hbq
    by_cases hq5:q < (n1:Int)
    ·have hC8:=hid (CTK.out q wy BQ.out)
     go_wp2_with fail
     refine hC8.out.mono ?_
     rintro e x8 ⟨rfl,hb8⟩
     have B8:=hid (BQ.out.trans (hb8.mono BQ.out.size))
     have Y8:=hid (BX.out.trans (hb8.mono BX.out.size))
     have hC9:=hid (CTL.out q x8 B8.out)
     rw[HTK.out q] at hC9
     clear hb8 hC8 m0 m1 m2
     have hw1:IntKind.i64.wrap (q+1)=q+1:=IntWalk.i64_in _ (by omega)
     go_wp2_with fail
     refine hC9.out.mono ?_
     rintro e x9 ⟨rfl,hb9⟩
     have Y9:=hid (Y8.out.trans (hb9.mono Y8.out.size))
     clear hb9 hC9
     go_wp2_with fail
     go_roundw
     case rel=>exact⟨q+1,by go_num,by omega,by omega,Y9.out⟩
     case measure=>simp[intOf];omega
    ·obtain⟨rfl,rfl,rfl,rfl⟩:=HE1.out
     have HV6:=hid (HV5.out.on BQ.out)
     cases kp with
     | true =>
      obtain⟨rfl,rfl⟩:=HNN.out rfl
      obtain⟨a0,a1,a2,a3,a4,a5⟩:=six HV6.out
      have hC8:=hid (CNO.out wy BQ.out)
      go_wp2_with fail
      refine hC8.out.mono ?_
      rintro e x8 ⟨rfl,q8,rfl⟩
      have hbq8:Below wy.heap.size wy (wy.drewN q8):=Below.drewN (Below.refl _ _) q8
      clear a0 a1 a2 a3 a4 a5 m0 m1 m2
      obtain⟨a0,a1,a2,a3,a4,a5⟩:=six (HV6.out.on hbq8)
      have HFF:=hid (HK5.out.trans ((BQ.out.trans (hbq8.mono BQ.out.size)).mono HK5.out.size))
      clear hbq8 hC8
      go_wp2_with fail
      go_roundw
      case rel=>exact⟨i+1,by omega,by go_num,HFF.out⟩
      case measure=>simp[intOf];omega
     | false =>
      have hdb2:=HDN.out rfl
      subst hdb2
      obtain⟨a0,a1,a2,a3,a4,a5⟩:=six HV6.out
      have hC8:=hid (CST.out wy BQ.out)
      go_wp2_with fail
      refine hC8.out.mono ?_
      rintro e x8 ⟨rfl,hb8⟩
      have HFF:=hid (HK5.out.trans ((BQ.out.trans (hb8.mono BQ.out.size)).mono HK5.out.size))
      clear a0 a1 a2 a3 a4 a5 m0 m1 m2
      obtain⟨a0,a1,a2,a3,a4,a5⟩:=six (HV6.out.on hb8)
      clear hb8 hC8
      go_wp2_with fail
      go_roundw
      case rel=>exact⟨i+1,by omega,by go_num,HFF.out⟩
      case measure=>simp[intOf];omega
  ·have hlti:¬ (i:Int) < (n3:Int):=by omega
   have HKN:=hid (H.known wq)
   clear hb
   go_wp2_with fail
   refine HKN.out.mono ?_
   rintro e w6 ⟨rfl,hb9⟩
   have HFF:=hid (HB.out.trans ((HK.out.trans (hb9.mono HK.out.size)).mono HB.out.size))
   clear hb9 HKN
   go_wp2_with fail
   go_ret
   exact Ans.mk rfl HFF.out
end Go.Proofs.YtfddpnhaejkacaaGreat.reduceWorse
