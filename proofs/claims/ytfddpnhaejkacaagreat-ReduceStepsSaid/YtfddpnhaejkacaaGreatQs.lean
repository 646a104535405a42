import Derived.Test.YtfddpnhaejkacaaGreatLow2
import Derived.Test.YtfddpnhaejkacaaGreatSn
import Derived.Test.YtfddpnhaejkacaaGreatRv
import Derived.Test.YtfddpnhaejkacaaGreatRu
namespace Go.Proofs.YtfddpnhaejkacaaGreat.reduceSteps
open Lib (hid)
open Go.ChangeShapes Go.WideShapes Go.ChangeAt Go.RowKit Tab
set_option linter.unusedSimpArgs false
set_option linter.unusedVariables false
set_option maxRecDepth 100000 in
set_option maxHeartbeats 8000000 in
theorem walk (H:ReduceW 41) (A0:Option Addr) (n0 k0:Nat) (f0:Nat→Int) (w:World) (r0:RdC w w.heap.size A0 n0 fun j=>.int .i64 (f0 j)) (c0:n0≤k0) (b0:k0≤140737488351232) :
  Calls Tryz.prog 6 #[.slice A0 n0 k0] w (Ans (.bool true) w):=by
 have HCB:=hid (config_boxy A0 n0 k0 f0 w r0 (by omega))
 clear r0
 go_enter Tryz.func6,Tryz.ntmps6
 go_wp2_with fail
 refine HCB.out.mono ?_
 rintro e w1 ⟨A1,A2,A3,n1,n2,n3,c1,c2,c3,P,C,T,rfl,hCf,q1,q2,q3,q4,q5,hT,hTt,q6,q7,q8,hper,hb1⟩
 have hbl:=bl1 w1 (.cells #[.slice A1 n1 c1,.slice A2 n2 c2,.slice A3 n3 c3] 31)
 have hbox:=box_vec w1 (.slice A1 n1 c1) (.slice A2 n2 c2) (.slice A3 n3 c3) 31
 have HB:=hid (hb1.trans (hbl.mono hb1.size))
 have HCF:=hid (hCf.on hbl)
 have HTB:=hid (hT.on hbl)
 have HTT:Hid (∀ t∈T,TbAt (w1.alloc (.cells #[.slice A1 n1 c1,.slice A2 n2 c2,.slice A3 n3 c3] 31)) (w1.alloc (.cells #[.slice A1 n1 c1,.slice A2 n2 c2,.slice A3 n3 c3] 31)).heap.size t∧Frame t∧holdsF (wordsL (rowF t)) P C=0):=hid fun t ht=>⟨(hTt t ht).1.on hbl,(hTt t ht).2⟩
 have HPE:=hid hper
 clear hCf hT hTt hper hb1 hbl HCB
 go_upto_region 3 with fail
 generalize w1.alloc (.cells #[.slice A1 n1 c1,.slice A2 n2 c2,.slice A3 n3 c3] 31)=W at hbox HB HCF HTB HTT ⊢
 generalize w1.heap.size=gc at hbox ⊢
 have HBX:=hid fun V (hv:Below W.heap.size W V)=>(hbox.on hv).three
 clear hbox
 obtain⟨ad3,t0,rfl,_,ht0,hc0,_⟩:=HTB.out.at_ tcl_len (by omega) (i:=0) (by omega)
 have hd0:=hc0 _ rfl
 have ha0:ad3.add 0=ad3:=by simp[Addr.add]
 rw[Nat.zero_mul,ha0] at hd0
 obtain⟨htt,hfr,hhk⟩:=HTT.out t0 (List.mem_of_getElem? ht0)
 have HOF:=hid (tb_rof htt hfr)
 have hfrm:=frm_row htt hfr
 have HFR:=hid hfrm
 generalize rowF t0=X at HOF HFR hhk
 clear htt hfr ht0 hc0 hhk hfrm HTT HTB ha0
 obtain⟨tA,tn,tc,tx,tk⟩:=t0
 dsimp only at hd0 HOF
 obtain⟨m0,m1,m2⟩:=HBX.out W (Below.refl _ _)
 have hj0:(0:Int) < (n3:Int):=by omega
 have hj0':0 < n3:=by omega
 go_wp2_with fail
 refine HOF.out.mono ?_
 rintro e w2 ⟨A5,m5,c5,rfl,hc5,hr5,hb5⟩
 have HR5:=hid (hr5 rfl)
 have HK2:=hid hb5
 have hm5:=HR5.out.len
 subst hm5
 clear hr5 hb5 m0 m1 m2 hd0 hj0 hj0' HOF
 go_wp2_with fail
 have hX96:=HFR.out.le
 go_loopw [5,7,8,9] (fun q s _ _ wr=>∃(A':Option Addr) (i c':Nat) (Y:List Rn),q=.slice A' Y.length c'∧s=.int .i64 i∧i+Y.length≤96∧Y.length≤c'∧Frm Y Y.length∧RdR wr wr.heap.size A' Y.length Y∧Below W.heap.size W wr) (fun _ s _ _ _=>96 - (intOf s).toNat)
 case atStart=>exact⟨A5,0,c5,X,rfl,rfl,by omega,hc5,HFR.out,HR5.out,HK2.out⟩
 case round =>
  obtain⟨A',i,c',Y,rfl,rfl,hi,hc',hfY,hrY,hb⟩:=hrel
  have hpos:=hfY.pos
  obtain⟨y,hy⟩:∃ y,y=Y.length:=⟨_,rfl⟩
  have hi96:(i:Int) < 96:=by omega
  have HK:=hid hb
  have HFY:=hid hfY
  have HIN:=hid (show RedIn wr A1 A2 A' n1 n2 Y.length c1 c' P C Y from ⟨HCF.out.on hb,hrY,by omega,q4,by omega,hc',HPE.out,hfY⟩)
  have HDR:=hid (H.draw A1 A2 (some ad3) A' n1 n2 n3 Y.length c1 c2 c3 c' P C Y wr HIN.out)
  obtain⟨m0,m1,m2⟩:=HBX.out wr hb
  rw[← hy] at HIN HDR hi hc' hpos ⊢
  have HY:=hid hy
  clear hb hfY hrY hy
  cases hdb:drwB P C Y with
  | false =>
   have e1:drwR P C Y=Y:=by unfold drwR;rw[drwB_none hdb];rfl
   rw[hdb,e1] at HDR
   unfold RowTb at HDR
   rw[← HY.out] at HDR
   go_wp2_with fail
   refine HDR.out.mono ?_
   rintro e w3 ⟨A6,c6,rfl,hr6,hc6,hb6⟩
   have HK3:=hid (HK.out.trans (hb6.mono HK.out.size))
   have HR6:=hid hr6
   have HST:=hid (H.stuck A1 A2 (some ad3) A' n1 n2 n3 y c1 c2 c3 c' P C Y w3 (HIN.out.on hb6))
   rw[hdb] at HST
   have HS3:=hid (HIN.out.on hb6).row
   clear hb6 hr6 m0 m1 m2 HDR hdb e1
   obtain⟨m0,m1,m2⟩:=HBX.out w3 HK3.out
   go_wp2_with fail
   refine HST.out.mono ?_
   rintro e w4 ⟨rfl,hb7⟩
   have HK4:=hid (HK3.out.trans (hb7.mono HK3.out.size))
   have HSM:=hid (samex_self A6 A' y c6 c' Y w4 (HR6.out.on hb7) (HS3.out.on hb7) (by omega))
   clear hb7 m0 m1 m2 HST
   go_wp2_with fail
   refine HSM.out.mono ?_
   rintro e w5 ⟨rfl,hb8⟩
   have HK5:=hid (HK4.out.trans (hb8.mono HK4.out.size))
   have HKN:=hid (H.known w5)
   clear hb8 HSM
   go_wp2_with fail
   refine HKN.out.mono ?_
   rintro e w6 ⟨rfl,hb9⟩
   have HFF:=hid (HB.out.trans ((HK5.out.trans (hb9.mono HK5.out.size)).mono HB.out.size))
   clear hb9 HKN
   go_wp2_with fail
   go_ret
   exact Ans.mk rfl HFF.out
  | true =>
   have HDB:=hid hdb
   have hds:=drwR_some hdb
   have hvd:=validF_draw hds
   obtain⟨mo,hmo,edo,hok⟩:=drawL_some hds
   have hls:=(moves (depP_sym P C) hmo).2.2.2.1
   rw[← edo,← HY.out] at hls
   have hfZ:=drwR_frm (P:=P) (C:=C) HFY.out
   rw[hdb] at HDR
   generalize drwR P C Y=Z at HDR hvd hls hfZ
   have HVD:=hid hvd
   have HFZ:=hid hfZ
   obtain⟨z,hz⟩:∃ z,z=Z.length:=⟨_,rfl⟩
   rw[← hz] at hls
   unfold RowTb at HDR
   rw[← hz] at HDR HFZ
   have HZ:=hid hz
   clear hds hmo edo hok hvd hfZ hz mo hdb
   have hge:¬ (z:Int)≥(y:Int):=by omega
   have hge3:¬ y≤z:=by omega
   go_wp2_with fail
   refine HDR.out.mono ?_
   rintro e w3 ⟨A6,c6,rfl,hr6,hc6,hb6⟩
   have HK3:=hid (HK.out.trans (hb6.mono HK.out.size))
   have HR6:=hid hr6
   have HI3:=hid (HIN.out.on hb6)
   have HVA:=hid (H.valid A1 A2 (some ad3) A' A6 n1 n2 n3 y z c1 c2 c3 c' c6 P C Y Z w3 HI3.out hr6 hc6 HFZ.out)
   rw[HVD.out] at HVA
   clear hb6 hr6 m0 m1 m2 HDR
   obtain⟨m0,m1,m2⟩:=HBX.out w3 HK3.out
   go_wp2_with fail
   refine HVA.out.mono ?_
   rintro e w4 ⟨rfl,hb7⟩
   have HK4:=hid (HK3.out.trans (hb7.mono HK3.out.size))
   have HR7:=hid (HR6.out.on hb7)
   have HST:=hid (H.stuck A1 A2 (some ad3) A' n1 n2 n3 y c1 c2 c3 c' P C Y w4 (HI3.out.on hb7))
   rw[HDB.out] at HST
   clear hb7 m0 m1 m2 HVA
   obtain⟨m0,m1,m2⟩:=HBX.out w4 HK4.out
   go_wp2_with fail
   refine HST.out.mono ?_
   rintro e w5 ⟨rfl,hb8⟩
   have HK5:=hid (HK4.out.trans (hb8.mono HK4.out.size))
   have HR8:=hid (HR7.out.on hb8)
   clear hb8 m0 m1 m2 HST
   go_wp2_with fail
   go_roundw
   case rel=>exact⟨A6,i+1,c6,Z,by rw[← HZ.out],by go_num,by rw[← HZ.out];omega,by rw[← HZ.out];exact hc6,by rw[← HZ.out];exact HFZ.out,by rw[← HZ.out];exact HR8.out,HK5.out⟩
   case measure=>simp[intOf];omega
end Go.Proofs.YtfddpnhaejkacaaGreat.reduceSteps
