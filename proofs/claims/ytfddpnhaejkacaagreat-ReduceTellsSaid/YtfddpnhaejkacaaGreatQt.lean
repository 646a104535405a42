import Derived.Test.YtfddpnhaejkacaaGreatLow2
import Derived.Test.YtfddpnhaejkacaaGreatQk
import Derived.Test.YtfddpnhaejkacaaGreatLow7
import Derived.Deep.Cut
namespace Go.Proofs.YtfddpnhaejkacaaGreat.reduceTells
open Lib (hid)
open Go.ChangeShapes Go.WideShapes Go.ChangeAt Go.RowKit Tab
set_option linter.unusedSimpArgs false
set_option linter.unusedVariables false
def TblV (v:Value) (w:World):Prop:=∃(A:Option Addr) (n c:Nat) (l:List Nd),v=.slice A n c∧RdN w w.heap.size A n l∧n≤c∧n≤1048576
theorem TblV.on {v:Value} {w w':World} (h:TblV v w) (hb:Below w.heap.size w w'):TblV v w':=by
 obtain⟨A,n,c,l,e,h1,h2⟩:=h
 exact⟨A,n,c,l,e,h1.on hb,h2⟩
structure CelT (gc gd:Nat) (v0 v1 v1' v2:Value) (ad3:Addr) (tb:Value) (w:World):Prop where
 c0:w.cell? ⟨gc,0,none⟩=some v0
 c1:w.cell? ⟨gc,1,none⟩=some v1
 c2:w.cell? ⟨gc,2,none⟩=some v2
 d0:w.cell? ⟨gd,0,none⟩=some v0
 d1:w.cell? ⟨gd,1,none⟩=some v1'
 d2:w.cell? ⟨gd,2,none⟩=some v2
 t0:w.cell? ad3=some tb
set_option maxRecDepth 100000 in
set_option maxHeartbeats 8000000 in
theorem walk (H:ReduceW 41) (A0:Option Addr) (n0 k0:Nat) (f0:Nat→Int) (a1:Int) (AR:Option Addr) (nr0 kr:Nat) (lr:List Nd) (w:World) (r0:RdC w w.heap.size A0 n0 fun j=>.int .i64 (f0 j)) (hc0:n0≤k0) (b0:k0≤140737488351232)
  (rr:RdN w w.heap.size AR nr0 lr) (hcr:nr0≤kr) (br:kr≤140737488351232) :
  Calls Tryz.prog 4 #[.slice A0 n0 k0,.int .i64 a1,.slice AR nr0 kr] w (Ans (.bool true) w):=by
 have HT0:=hid (tape_boxed A0 n0 k0 f0 w r0)
 have HBT:=hid (bl1 w (.cells #[.slice A0 n0 k0,.int .i64 0] 26))
 have HRR:=hid rr
 clear r0 rr
 go_enter Tryz.func4,Tryz.ntmps4
 go_upto_region 2 with fail
 obtain⟨b,hbb⟩:∃ b,b=w.heap.size:=⟨_,rfl⟩
 rw[← hbb] at HT0 ⊢
 generalize w.alloc (.cells #[.slice A0 n0 k0,.int .i64 0] 26)=wA at HT0 HBT ⊢
 have HLW:Hid (w.heap.size≤b):=hid (by omega)
 clear hbb
 have HBA:Hid (b < wA.heap.size):=hid HT0.out.lt
 go_wp2_with fail
 refine(config_anyz b b A0 n0 k0 f0 (by omega) 0 wA HT0.out).mono ?_
 rintro e w2 ⟨A1,A2,A3,n1,n2,n3,c1,c2,c3,P,C,T3,at1,rfl,hCf,q1,q2,q3,q4,q5,hco,hTb,hTt,q6,q7,q8,T6,G6,hper,_,_,hPo,hCo,hd12,hA3,htA⟩
 have hbl:=bl1 w2 (.cells #[.slice A1 n1 c1,.slice A2 n2 c2,.slice A3 n3 c3] 31)
 have HPO:=hid (hPo.below hbl)
 have HCO:=hid (hCo.below hbl)
 have HT6:=hid (T6.below hbl T6.lt)
 have HBX:=hid (box_vec w2 (.slice A1 n1 c1) (.slice A2 n2 c2) (.slice A3 n3 c3) 31)
 obtain⟨t0,ht0⟩:∃ t0,T3[0]? = some t0:=⟨_,List.getElem?_eq_getElem (by have:=hTb.len;omega)⟩
 have HTB:=hid (hTb.on hbl)
 have HTA:Hid (TbAt (w2.alloc (.cells #[.slice A1 n1 c1,.slice A2 n2 c2,.slice A3 n3 c3] 31)) (w2.alloc (.cells #[.slice A1 n1 c1,.slice A2 n2 c2,.slice A3 n3 c3] 31)).heap.size t0):=hid (((hTt t0 (List.mem_of_getElem? ht0)).1).on hbl)
 have HNB:Hid ((∀ k,obk A3=some k→k≠b)∧(∀ k,obk t0.A=some k→k≠b)):=hid ⟨fun k e=>by have h1:=hA3 k e;have h2:=HBA.out;omega,fun k e=>by have h1:=htA t0 (List.mem_of_getElem? ht0) k e;have h2:=HBA.out;omega⟩
 have HB3:Hid (Below w.heap.size w (w2.alloc (.cells #[.slice A1 n1 c1,.slice A2 n2 c2,.slice A3 n3 c3] 31))):=hid (by
  have hx:=HBA.out
  have hy:=HLW.out
  have h2:Below w.heap.size w w2:=HBT.out.trans ⟨G6.os,G6.tape,G6.output,G6.size,fun q hq=>G6.block q (Nat.lt_of_lt_of_le hq HBT.out.size) (fun e=>by injection e with e;omega)⟩
  exact h2.trans (hbl.mono h2.size))
 have HG:Hid (b < w2.heap.size):=hid (Nat.lt_of_lt_of_le HBA.out G6.size)
 have HPER:=hid hper
 have HT0:=hid ht0
 clear hCf hTb hTt hco T6 G6 hper hPo hCo hd12 hbl HBT hA3 htA ht0
 go_upto_region 3 with fail
 generalize w2.alloc (.cells #[.slice A1 n1 c1,.slice A2 n2 c2,.slice A3 n3 c3] 31)=w3 at HPO HCO HT6 HBX HB3 HTB HTA ⊢
 generalize w2.heap.size=gc at HBX HG ⊢
 obtain⟨x0,x1,x2⟩:=HBX.out.three
 go_wp2_with fail
 refine(row_any b b A0 n0 k0 f0 (by omega) n1 14 (by omega) (by omega) (by omega) (by omega) at1 w3 HT6.out).mono ?_
 rintro e w4 ⟨L,AL,nl,cl,at2,rfl,hL,hown,h1a,h1b,T1,G4⟩
 clear x0 x1 x2
 have hcl:=hown.cap
 have hnl:=hown.rdr.len
 subst hnl
 have HFL:=hid (fair_frm hL (by omega) h1a (by omega))
 have HRL:=hid hown.rdr
 have hx:=HBA.out
 have hy:=HLW.out
 have hz:=HG.out
 have HLB:Hid (∀ k,obk AL=some k→k≠b):=hid fun k e=>by
  have h1:=(hown.obk_ge e).1
  have h2:=HBX.out.lt
  omega
 have HB4:Hid (Below w.heap.size w w4):=hid (HB3.out.trans ⟨G4.os,G4.tape,G4.output,G4.size,fun q hq=>G4.block q (Nat.lt_of_lt_of_le hq HB3.out.size) (fun e=>by injection e with e;omega)⟩)
 have hbx4:=HBX.out.keep (G4.block gc HBX.out.lt (fun e=>by injection e with e;omega)) G4.size
 have hpo4:=HPO.out.gb G4 (by omega)
 have hco4:=HCO.out.gb G4 (by omega)
 have HCF:Hid (CfW w4 w4.heap.size A1 A2 n1 n2 P C):=hid ⟨hpo4.rdb,hco4.rdb⟩
 have HPB:Hid ((∀ k,obk A1=some k→k≠b)∧(∀ k,obk A2=some k→k≠b)):=hid ⟨fun k e=>by have h1:=(hpo4.own.obk_ge e).1;omega,fun k e=>by have h1:=(hco4.own.obk_ge e).1;omega⟩
 have hon:Only (fun k=>k=b) w3 w4:=Only.gb G4 rfl
 have htb4:RdB tcl w4 w4.heap.size A3 n3 T3:=⟨HTB.out.len,hon.rdv (B:=0) HTB.out.rd fun k e=>HNB.out.1 k e⟩
 have HTA4:Hid (TbAt w4 w4.heap.size t0):=hid (HTA.out.only hon fun k e=>HNB.out.2 k e)
 obtain⟨ad3,t0',hB3,_,ht0',hc0',_⟩:=htb4.at_ tcl_len (by omega) (i:=0) (by omega)
 subst hB3
 rw[HT0.out] at ht0'
 injection ht0' with ht0'
 subst ht0'
 have hd0:=hc0' _ rfl
 have ha0:ad3.add 0=ad3:=by simp[Addr.add]
 rw[Nat.zero_mul,ha0] at hd0
 have HA0:=hid ha0
 have HD0:=hid hd0
 have HAB:Hid (ad3.block≠b):=hid (HNB.out.1 ad3.block rfl)
 have HTN:Hid (∀ k,obk t0.A=some k→k≠b):=hid HNB.out.2
 have HBX4:=hid hbx4
 have HT1:=hid T1
 obtain⟨tA,tn,tc,tx,tk⟩:=t0
 dsimp only at HD0 HTN
 have HGC:Hid (gc≠b):=hid (by omega)
 have HGL:Hid (gc < w4.heap.size):=hid hbx4.lt
 have hJ0:Hid ((0:Int) < (n3:Int)∧0 < n3):=hid ⟨by omega,by omega⟩
 clear hown T1 G4 hL HPO HCO HT6 HBX HB3 hx hy hz hbx4 hon htb4 hc0' HTB HTA HNB HT0 hpo4 hco4 hd0 ha0 HG HBA h1a h1b
 obtain⟨x0,x1,x2⟩:=HBX4.out.three
 go_upto_region 5 with fail
 have hbd:=bl1 w4 (.cells #[.slice A1 n1 c1,.slice A2 n2 c2,.slice (some ad3) n3 c3] 31)
 have hvd:=box_vec w4 (.slice A1 n1 c1) (.slice A2 n2 c2) (.slice (some ad3) n3 c3) 31
 have hvq:=HBX4.out.on hbd
 have hszd:w4.heap.size < (w4.alloc (.cells #[.slice A1 n1 c1,.slice A2 n2 c2,.slice (some ad3) n3 c3] 31)).heap.size:=by simp
 generalize hWd:w4.alloc (.cells #[.slice A1 n1 c1,.slice A2 n2 c2,.slice (some ad3) n3 c3] 31)=Wd at hbd hvd hvq hszd ⊢
 clear hWd x0 x1 x2
 have hbe:=bl1 Wd (.cells #[] 42)
 have hle:Wd.heap.size≤(Wd.alloc (.cells #[] 42)).heap.size:=hbe.size
 have m1e:=(hvq.on hbe).three.2.1
 have hown0:OwnV 42 6 (Wd.alloc (.cells #[] 42)) Wd.heap.size (some ⟨Wd.heap.size,0,none⟩) 0 0 []:=ownV_lit Wd _ 6 Wd.heap.size #[] 0 rfl (Nat.le_refl _) (by unfold maxLen;omega)
 have hrd2:=((HCF.out.on hbd).on hbe).c.rd
 have hl2:(C.flatMap cc).length=n2*6:=by rw[flat_len cc_len,HCF.out.c.len]
 obtain⟨gd,hgd⟩:∃ gd,gd=w4.heap.size:=⟨_,rfl⟩
 have HFIN:Hid (∀ A5 c5 w5,OwnV 42 6 w5 Wd.heap.size A5 n2 c5 (C.flatMap cc)→Below Wd.heap.size Wd w5 →
   (w5.cell? ⟨gd,1,none⟩=some (.slice A2 n2 c2)∧w5.frozen? ⟨gd,1,none⟩=false) ∧
   OwnB 42 6 cc (w5.setCell ⟨gd,1,none⟩ (.slice A5 n2 c5)) Wd.heap.size A5 n2 c5 C ∧
   Vec (w5.setCell ⟨gd,1,none⟩ (.slice A5 n2 c5)) gd 3 (fun j=>if j=0 then .slice A1 n1 c1 else if j=1 then .slice A5 n2 c5 else .slice (some ad3) n3 c3) ∧
   Below w4.heap.size w4 (w5.setCell ⟨gd,1,none⟩ (.slice A5 n2 c5))):=hid fun A5 c5 w5 ho hb=>by
  rw[hgd]
  have hbW:Below w4.heap.size w4 (w5.setCell ⟨w4.heap.size,1,none⟩ (.slice A5 n2 c5)):=(hbd.trans (hb.mono hbd.size)).setCell (p:=⟨w4.heap.size,1,none⟩) (Nat.le_refl _) _
  have hv5:=hvd.below hb hszd
  have hA5:∀ g,A5=some ⟨g,0,none⟩→g≠w4.heap.size:=fun g e=>by
   have:=(ho.obk_ge (b:=g) (by rw[e];rfl)).1
   omega
  have ho':=ho.other ⟨w4.heap.size,1,none⟩ (.slice A5 n2 c5) hA5
  refine⟨⟨hv5.cell 1 (by omega),hv5.thaw 1⟩,⟨HCF.out.c.len,ho'⟩,(hv5.set 1 _).congr fun j hj=>?_,hbW⟩
  rcases(by omega:j=0∨j=1∨j=2) with rfl | rfl | rfl <;> rfl
 have HGD:Hid (w4.heap.size≤gd∧gd < Wd.heap.size):=hid ⟨by omega,by omega⟩
 rw[← hgd]
 clear hgd hvd hvq hbd
 go_upto_region 6 with (at_builtin;go_loud (refine wpList_appV elCh rfl (.tmp 23) (.tmp 25) rfl rfl Wd.heap.size (some ⟨Wd.heap.size,0,none⟩) 0 0 [] rfl hown0 A2 n2 c2 (C.flatMap cc) _ rfl hrd2 hl2 (cc_one C) (by omega) (by unfold maxLen;omega) hle n2 (Nat.zero_add _) (C.flatMap cc) (List.nil_append _) ?_;intro A5 c5 w5 hw5 hb5 _;have hF:=HFIN.out A5 c5 w5 hw5 (hbe.trans hb5);obtain⟨⟨z0,z1⟩,hFr⟩:=hF;have HFR:=hid hFr;clear hFr hw5 hb5))
 generalize w5.setCell ⟨gd,1,none⟩ (.slice A5 n2 c5)=V at HFR ⊢
 obtain⟨hch,hvd,hbV⟩:=HFR.out
 have HCH:=hid hch
 have HVD:=hid hvd
 have HBV:=hid hbV
 clear HFR HFIN hch hvd hbV z0 z1 hown0 hrd2 m1e hbe hle hl2 hszd
 obtain⟨y0,y1,y2⟩:=HVD.out.three
 go_wp2_with fail
 clear y0 y1 y2
 obtain⟨zl,hzl,hzl'⟩:=and_mask a1 15 (by omega)
 have hzl:bits .and .i64 a1 15=(zl:Int):=hzl
 go_loopw [11,31] (fun _ s wx=>∃(i:Nat) (C':List ChV),i≤n2∧s=.int .i64 i∧OwnB 42 6 cc wx Wd.heap.size A5 n2 c5 C'∧Vec wx gd 3 (fun j=>if j=0 then .slice A1 n1 c1 else if j=1 then .slice A5 n2 c5 else .slice (some ad3) n3 c3)∧Below w4.heap.size w4 wx) (fun _ s _=>n2 - (intOf s).toNat)
 case atStart=>exact⟨0,C,by omega,rfl,HCH.out,HVD.out,HBV.out⟩
 case round =>
  obtain⟨i,C',hi,rfl,hS1,hS2,hS3⟩:=hrel
  have HQ1:=hid hS1
  have HQ2:=hid hS2
  have HQ3:=hid hS3
  clear hS1 hS2 hS3
  by_cases hin:i < n2
  ·have hini:(i:Int) < (n2:Int):=by omega
   obtain⟨g2,rfl,hg2,_⟩:=HQ1.out.block (by omega)
   obtain⟨x,hx⟩:∃ x,C'[i]? = some x:=⟨_,List.getElem?_eq_getElem (by have:=HQ1.out.len;omega)⟩
   obtain⟨f5,f6⟩:=HQ1.out.cell cc_len (k:=5) hx (by omega) rfl
   obtain⟨y0,y1,y2⟩:=HQ2.out.three
   have HX:=hid hx
   have HNX:Hid (OwnB 42 6 cc (wr.setCell ⟨g2,i*6+5,none⟩ (.int .i64 zl)) Wd.heap.size (some ⟨g2,0,none⟩) n2 c5 (C'.set i { x with late:=zl })∧Vec (wr.setCell ⟨g2,i*6+5,none⟩ (.int .i64 zl)) gd 3 (fun j=>if j=0 then .slice A1 n1 c1 else if j=1 then .slice (some ⟨g2,0,none⟩) n2 c5 else .slice (some ad3) n3 c3)∧Below w4.heap.size w4 (wr.setCell ⟨g2,i*6+5,none⟩ (.int .i64 zl))) :=
    hid ⟨HQ1.out.put cc_len HX.out (by omega) (cc_late x zl),HQ2.out.other ⟨g2,i*6+5,none⟩ _ (by have:=HGD.out;show gd≠g2;omega),HQ3.out.setCell (p:=⟨g2,i*6+5,none⟩) (by have:=HGD.out;show w4.heap.size≤g2;omega) _⟩
   clear hx hg2
   go_wp2_with fail
   go_roundw
   case rel=>exact⟨i+1,_,by omega,by go_num,HNX.out.1,HNX.out.2.1,HNX.out.2.2⟩
   case measure=>simp[intOf];omega
  ·have hini:¬ (i:Int) < (n2:Int):=by omega
   obtain⟨w5,hw5⟩:∃ w5,w5=wr:=⟨_,rfl⟩
   subst hw5
   have HB5:=hid (HB4.out.trans (HQ3.out.mono HB4.out.size))
   have hgdb:gd≠b:=by have h1:=HGD.out;have h2:=HT1.out.lt;omega
   have HTP:Hid (Tpe w5 b A0 n0 k0 f0 w5):=hid ⟨Only.refl _ _,at2,HT1.out.below HQ3.out HT1.out.lt⟩
   have HCE:Hid (∀ U,Tpe w5 b A0 n0 k0 f0 U→CelT gc gd (.slice A1 n1 c1) (.slice A2 n2 c2) (.slice A5 n2 c5) (.slice (some ad3) n3 c3) ad3 (.slice tA tn tc) U):=hid fun U hU=>by
    obtain⟨e0,e1,e2⟩:=(HBX4.out.on HQ3.out).three
    obtain⟨y0,y1,y2⟩:=HQ2.out.three
    have hd:w5.cell? ad3=some (.slice tA tn tc):=(HQ3.out.cell (World.block_lt_of_cell? _ _ HD0.out)).trans HD0.out
    exact⟨hU.1.celln HGC.out e0,hU.1.celln HGC.out e1,hU.1.celln HGC.out e2,hU.1.celln hgdb y0,hU.1.celln hgdb y1,hU.1.celln hgdb y2,hU.1.cella HAB.out hd⟩
   have HC1:=hid fun U (hU:Tpe w5 b A0 n0 k0 f0 U)=>(⟨hU.1.rdb (HCF.out.on HQ3.out).p HPB.out.1,hU.1.rdb (HCF.out.on HQ3.out).c HPB.out.2⟩:CfW U U.heap.size A1 A2 n1 n2 P C)
   have HC2:=hid fun U (hU:Tpe w5 b A0 n0 k0 f0 U)=>(⟨hU.1.rdb (HCF.out.on HQ3.out).p HPB.out.1,hU.1.rdb HQ1.out.rdb fun k e=>by have h1:=(HQ1.out.own.obk_ge e).1;have h2:=HGD.out;have h3:=HT1.out.lt;omega⟩:CfW U U.heap.size A1 A5 n1 n2 P C')
   have HRW:=hid fun U (hU:Tpe w5 b A0 n0 k0 f0 U)=>hU.1.rdr (HRL.out.on HQ3.out) HLB.out
   have HTW:=hid fun U (hU:Tpe w5 b A0 n0 k0 f0 U)=>hU.1.rdn (HTA4.out.rd.on HQ3.out) HTN.out
   have HS1:=hid fun U (hU:Tpe w5 b A0 n0 k0 f0 U)=>lsame11_any H A1 A2 (some ad3) AL n1 n2 n3 c1 c2 c3 cl P C L U ⟨HC1.out U hU,HRW.out U hU,by omega,q4,by omega,hcl,HPER.out,HFL.out⟩
   have HS2:=hid fun U (hU:Tpe w5 b A0 n0 k0 f0 U)=>lsame11_any H A1 A5 (some ad3) AL n1 n2 n3 c1 c5 c3 cl P C' L U ⟨HC2.out U hU,HRW.out U hU,by omega,q4,by omega,hcl,HPER.out,HFL.out⟩
   have HPA:=hid fun U (hU:Tpe w5 b A0 n0 k0 f0 U)=>lpasses_any A1 A5 (some ad3) AL n1 n2 n3 L.length c1 c5 c3 cl P C' L U ⟨HC2.out U hU,HRW.out U hU,by omega,q4,by omega,hcl,HPER.out,HFL.out⟩
   have HTB:=hid fun A' n' c' l' U (hU:Tpe w5 b A0 n0 k0 f0 U) (hr:RdN U U.heap.size A' n' l') (hc:n'≤c') (hn:n'≤1048576)=>ltable_raw H A1 A2 (some ad3) A' n1 n2 n3 n' c1 c2 c3 c' P C l' U (HC1.out U hU) hr (by omega) q4 (by omega) hc hn HPER.out
   have HT1:=hid fun U (hU:Tpe w5 b A0 n0 k0 f0 U)=>HTB.out tA tn tc (tx::tk.flat) U hU (HTW.out U hU) HTA4.out.cap HTA4.out.few
   have HT2:=hid fun U (hU:Tpe w5 b A0 n0 k0 f0 U)=>ltable_raw H A1 A5 (some ad3) tA n1 n2 n3 tn c1 c5 c3 tc P C' (tx::tk.flat) U (HC2.out U hU) (HTW.out U hU) (by omega) q4 (by omega) HTA4.out.cap HTA4.out.few HPER.out
   have HRB:=hid fun U (hU:Tpe w5 b A0 n0 k0 f0 U)=>(HRR.out.below (HB5.out.trans (hU.base HLW.out HB5.out.size))).more (HB5.out.trans (hU.base HLW.out HB5.out.size)).size
   have hn2:=HCF.out.c.len
   obtain⟨y0,y1,y2⟩:=HQ2.out.three
   by_cases h50:50 < nr0
   ·have h50i:(50:Int) < (nr0:Int):=by omega
    have h50k:50≤kr:=by omega
    obtain⟨adr,_,rfl,_⟩:=HRR.out.at_ (i:=0) (by omega)
    have HT3:=hid fun U (hU:Tpe w5 b A0 n0 k0 f0 U)=>HTB.out (some adr) 50 kr (lr.take 50) U hU ((HRB.out U hU).takeN (by omega)) (by omega) (by omega)
    go_wp2_with fail
    clear y0 y1 y2 h50 h50i
    refine Rgs.region (by kernel_rfl) (by kernel_rfl) (fun(opn:Nat) (vl:Value) (wv:World)=>match opn with | 0=>vl=.agg #[.slice A1 n1 c1,.slice A2 n2 c2,.slice (some ad3) n3 c3] | 1=>vl=.slice AL L.length cl | 2=>vl=.bool true | 3=>vl=.bool true | 4=>vl=.agg #[.slice A1 n1 c1,.slice A5 n2 c5,.slice (some ad3) n3 c3] | 5=>vl=.slice AL L.length cl | 6=>vl=.bool true | 7=>vl=.bool true | 8=>vl=.bool true | 9=>vl=.agg #[.slice A1 n1 c1,.slice A5 n2 c5,.slice (some ad3) n3 c3] | 10=>vl=.slice AL L.length cl | 11=>vl=.bool true | 12=>vl=.bool true | 13=>vl=.bool true | 14=>vl=.agg #[.slice A1 n1 c1,.slice A2 n2 c2,.slice (some ad3) n3 c3] | 15=>vl=.pointer (some ⟨gc,2,none⟩) | 16=>vl=.slice (some ad3) n3 c3 | 17=>vl=.pointer (some ad3) | 18=>vl=.slice tA tn tc | 19=>vl=.bool true | 20=>vl=.bool true | 21=>vl=.bool true | 22=>vl=.agg #[.slice A1 n1 c1,.slice A5 n2 c5,.slice (some ad3) n3 c3] | 23=>vl=.pointer (some ⟨gc,2,none⟩) | 24=>vl=.slice (some ad3) n3 c3 | 25=>vl=.pointer (some ad3) | 26=>vl=.slice tA tn tc | 27=>vl=.bool true | 28=>vl=.bool true | 29=>vl=.bool true | 30=>vl=.agg #[.slice A1 n1 c1,.slice A2 n2 c2,.slice (some ad3) n3 c3] | 31=>vl=.pointer (some ⟨b,0,none⟩) | 32=>vl=.pointer (some ⟨gc,0,none⟩) | 33=>vl=.slice A1 n1 c1 | 34=>vl=.int .i64 (n1:Int) | 35=>TblV vl wv | 36=>vl=.bool true | 37=>vl=.bool true | 38=>vl=.bool true | 39=>vl=.agg #[.slice A1 n1 c1,.slice A2 n2 c2,.slice (some ad3) n3 c3] | 40=>vl=.slice (some adr) 50 kr | 41=>vl=.bool true | 42=>vl=.bool true | 43=>vl=.bool true | 44=>vl=.bool true | 45=>vl=.bool true | 46=>vl=.bool true | _=>True) (fun _ _ w'=>Tpe w5 b A0 n0 k0 f0 w') (HTP.out.bel (Below.refl _ _).drew) (Rgs.steps_of ?_) ?_
    ·have keepV:∀ {wx wy:World} (hb5:Below wx.heap.size wx wy) (jq:Nat) (vq:Value),(fun(opn:Nat) (vl:Value) (wv:World)=>match opn with | 0=>vl=.agg #[.slice A1 n1 c1,.slice A2 n2 c2,.slice (some ad3) n3 c3] | 1=>vl=.slice AL L.length cl | 2=>vl=.bool true | 3=>vl=.bool true | 4=>vl=.agg #[.slice A1 n1 c1,.slice A5 n2 c5,.slice (some ad3) n3 c3] | 5=>vl=.slice AL L.length cl | 6=>vl=.bool true | 7=>vl=.bool true | 8=>vl=.bool true | 9=>vl=.agg #[.slice A1 n1 c1,.slice A5 n2 c5,.slice (some ad3) n3 c3] | 10=>vl=.slice AL L.length cl | 11=>vl=.bool true | 12=>vl=.bool true | 13=>vl=.bool true | 14=>vl=.agg #[.slice A1 n1 c1,.slice A2 n2 c2,.slice (some ad3) n3 c3] | 15=>vl=.pointer (some ⟨gc,2,none⟩) | 16=>vl=.slice (some ad3) n3 c3 | 17=>vl=.pointer (some ad3) | 18=>vl=.slice tA tn tc | 19=>vl=.bool true | 20=>vl=.bool true | 21=>vl=.bool true | 22=>vl=.agg #[.slice A1 n1 c1,.slice A5 n2 c5,.slice (some ad3) n3 c3] | 23=>vl=.pointer (some ⟨gc,2,none⟩) | 24=>vl=.slice (some ad3) n3 c3 | 25=>vl=.pointer (some ad3) | 26=>vl=.slice tA tn tc | 27=>vl=.bool true | 28=>vl=.bool true | 29=>vl=.bool true | 30=>vl=.agg #[.slice A1 n1 c1,.slice A2 n2 c2,.slice (some ad3) n3 c3] | 31=>vl=.pointer (some ⟨b,0,none⟩) | 32=>vl=.pointer (some ⟨gc,0,none⟩) | 33=>vl=.slice A1 n1 c1 | 34=>vl=.int .i64 (n1:Int) | 35=>TblV vl wv | 36=>vl=.bool true | 37=>vl=.bool true | 38=>vl=.bool true | 39=>vl=.agg #[.slice A1 n1 c1,.slice A2 n2 c2,.slice (some ad3) n3 c3] | 40=>vl=.slice (some adr) 50 kr | 41=>vl=.bool true | 42=>vl=.bool true | 43=>vl=.bool true | 44=>vl=.bool true | 45=>vl=.bool true | 46=>vl=.bool true | _=>True) jq vq wx→(fun(opn:Nat) (vl:Value) (wv:World)=>match opn with | 0=>vl=.agg #[.slice A1 n1 c1,.slice A2 n2 c2,.slice (some ad3) n3 c3] | 1=>vl=.slice AL L.length cl | 2=>vl=.bool true | 3=>vl=.bool true | 4=>vl=.agg #[.slice A1 n1 c1,.slice A5 n2 c5,.slice (some ad3) n3 c3] | 5=>vl=.slice AL L.length cl | 6=>vl=.bool true | 7=>vl=.bool true | 8=>vl=.bool true | 9=>vl=.agg #[.slice A1 n1 c1,.slice A5 n2 c5,.slice (some ad3) n3 c3] | 10=>vl=.slice AL L.length cl | 11=>vl=.bool true | 12=>vl=.bool true | 13=>vl=.bool true | 14=>vl=.agg #[.slice A1 n1 c1,.slice A2 n2 c2,.slice (some ad3) n3 c3] | 15=>vl=.pointer (some ⟨gc,2,none⟩) | 16=>vl=.slice (some ad3) n3 c3 | 17=>vl=.pointer (some ad3) | 18=>vl=.slice tA tn tc | 19=>vl=.bool true | 20=>vl=.bool true | 21=>vl=.bool true | 22=>vl=.agg #[.slice A1 n1 c1,.slice A5 n2 c5,.slice (some ad3) n3 c3] | 23=>vl=.pointer (some ⟨gc,2,none⟩) | 24=>vl=.slice (some ad3) n3 c3 | 25=>vl=.pointer (some ad3) | 26=>vl=.slice tA tn tc | 27=>vl=.bool true | 28=>vl=.bool true | 29=>vl=.bool true | 30=>vl=.agg #[.slice A1 n1 c1,.slice A2 n2 c2,.slice (some ad3) n3 c3] | 31=>vl=.pointer (some ⟨b,0,none⟩) | 32=>vl=.pointer (some ⟨gc,0,none⟩) | 33=>vl=.slice A1 n1 c1 | 34=>vl=.int .i64 (n1:Int) | 35=>TblV vl wv | 36=>vl=.bool true | 37=>vl=.bool true | 38=>vl=.bool true | 39=>vl=.agg #[.slice A1 n1 c1,.slice A2 n2 c2,.slice (some ad3) n3 c3] | 40=>vl=.slice (some adr) 50 kr | 41=>vl=.bool true | 42=>vl=.bool true | 43=>vl=.bool true | 44=>vl=.bool true | 45=>vl=.bool true | 46=>vl=.bool true | _=>True) jq vq wy:=by
      intro wx wy hb5 jq vq h
      revert h
      match jq with
      | 35=>exact fun h=>TblV.on h hb5
      | 0 | 1 | 2 | 3 | 4 | 5 | 6 | 7 | 8 | 9 | 10 | 11 | 12 | 13 | 14 | 15 | 16 | 17 | 18 | 19 | 20 | 21 | 22 | 23 | 24 | 25 | 26 | 27 | 28 | 29 | 30 | 31 | 32 | 33 | 34 | 36 | 37 | 38 | 39 | 40 | 41 | 42 | 43 | 44 | 45 | 46 | _+47=>exact fun h=>h
     have moveV:∀ {wx wy:World} {jq:Nat} (hj:jq≠35) (vq:Value),(fun(opn:Nat) (vl:Value) (wv:World)=>match opn with | 0=>vl=.agg #[.slice A1 n1 c1,.slice A2 n2 c2,.slice (some ad3) n3 c3] | 1=>vl=.slice AL L.length cl | 2=>vl=.bool true | 3=>vl=.bool true | 4=>vl=.agg #[.slice A1 n1 c1,.slice A5 n2 c5,.slice (some ad3) n3 c3] | 5=>vl=.slice AL L.length cl | 6=>vl=.bool true | 7=>vl=.bool true | 8=>vl=.bool true | 9=>vl=.agg #[.slice A1 n1 c1,.slice A5 n2 c5,.slice (some ad3) n3 c3] | 10=>vl=.slice AL L.length cl | 11=>vl=.bool true | 12=>vl=.bool true | 13=>vl=.bool true | 14=>vl=.agg #[.slice A1 n1 c1,.slice A2 n2 c2,.slice (some ad3) n3 c3] | 15=>vl=.pointer (some ⟨gc,2,none⟩) | 16=>vl=.slice (some ad3) n3 c3 | 17=>vl=.pointer (some ad3) | 18=>vl=.slice tA tn tc | 19=>vl=.bool true | 20=>vl=.bool true | 21=>vl=.bool true | 22=>vl=.agg #[.slice A1 n1 c1,.slice A5 n2 c5,.slice (some ad3) n3 c3] | 23=>vl=.pointer (some ⟨gc,2,none⟩) | 24=>vl=.slice (some ad3) n3 c3 | 25=>vl=.pointer (some ad3) | 26=>vl=.slice tA tn tc | 27=>vl=.bool true | 28=>vl=.bool true | 29=>vl=.bool true | 30=>vl=.agg #[.slice A1 n1 c1,.slice A2 n2 c2,.slice (some ad3) n3 c3] | 31=>vl=.pointer (some ⟨b,0,none⟩) | 32=>vl=.pointer (some ⟨gc,0,none⟩) | 33=>vl=.slice A1 n1 c1 | 34=>vl=.int .i64 (n1:Int) | 35=>TblV vl wv | 36=>vl=.bool true | 37=>vl=.bool true | 38=>vl=.bool true | 39=>vl=.agg #[.slice A1 n1 c1,.slice A2 n2 c2,.slice (some ad3) n3 c3] | 40=>vl=.slice (some adr) 50 kr | 41=>vl=.bool true | 42=>vl=.bool true | 43=>vl=.bool true | 44=>vl=.bool true | 45=>vl=.bool true | 46=>vl=.bool true | _=>True) jq vq wx→(fun(opn:Nat) (vl:Value) (wv:World)=>match opn with | 0=>vl=.agg #[.slice A1 n1 c1,.slice A2 n2 c2,.slice (some ad3) n3 c3] | 1=>vl=.slice AL L.length cl | 2=>vl=.bool true | 3=>vl=.bool true | 4=>vl=.agg #[.slice A1 n1 c1,.slice A5 n2 c5,.slice (some ad3) n3 c3] | 5=>vl=.slice AL L.length cl | 6=>vl=.bool true | 7=>vl=.bool true | 8=>vl=.bool true | 9=>vl=.agg #[.slice A1 n1 c1,.slice A5 n2 c5,.slice (some ad3) n3 c3] | 10=>vl=.slice AL L.length cl | 11=>vl=.bool true | 12=>vl=.bool true | 13=>vl=.bool true | 14=>vl=.agg #[.slice A1 n1 c1,.slice A2 n2 c2,.slice (some ad3) n3 c3] | 15=>vl=.pointer (some ⟨gc,2,none⟩) | 16=>vl=.slice (some ad3) n3 c3 | 17=>vl=.pointer (some ad3) | 18=>vl=.slice tA tn tc | 19=>vl=.bool true | 20=>vl=.bool true | 21=>vl=.bool true | 22=>vl=.agg #[.slice A1 n1 c1,.slice A5 n2 c5,.slice (some ad3) n3 c3] | 23=>vl=.pointer (some ⟨gc,2,none⟩) | 24=>vl=.slice (some ad3) n3 c3 | 25=>vl=.pointer (some ad3) | 26=>vl=.slice tA tn tc | 27=>vl=.bool true | 28=>vl=.bool true | 29=>vl=.bool true | 30=>vl=.agg #[.slice A1 n1 c1,.slice A2 n2 c2,.slice (some ad3) n3 c3] | 31=>vl=.pointer (some ⟨b,0,none⟩) | 32=>vl=.pointer (some ⟨gc,0,none⟩) | 33=>vl=.slice A1 n1 c1 | 34=>vl=.int .i64 (n1:Int) | 35=>TblV vl wv | 36=>vl=.bool true | 37=>vl=.bool true | 38=>vl=.bool true | 39=>vl=.agg #[.slice A1 n1 c1,.slice A2 n2 c2,.slice (some ad3) n3 c3] | 40=>vl=.slice (some adr) 50 kr | 41=>vl=.bool true | 42=>vl=.bool true | 43=>vl=.bool true | 44=>vl=.bool true | 45=>vl=.bool true | 46=>vl=.bool true | _=>True) jq vq wy:=by
      intro wx wy jq hj vq h
      revert h
      match jq,hj with
      | 35,hj=>exact absurd rfl hj
      | 0,_ | 1,_ | 2,_ | 3,_ | 4,_ | 5,_ | 6,_ | 7,_ | 8,_ | 9,_ | 10,_ | 11,_ | 12,_ | 13,_ | 14,_ | 15,_ | 16,_ | 17,_ | 18,_ | 19,_ | 20,_ | 21,_ | 22,_ | 23,_ | 24,_ | 25,_ | 26,_ | 27,_ | 28,_ | 29,_ | 30,_ | 31,_ | 32,_ | 33,_ | 34,_ | 36,_ | 37,_ | 38,_ | 39,_ | 40,_ | 41,_ | 42,_ | 43,_ | 44,_ | 45,_ | 46,_ | _+47,_=>exact fun h=>h
     refine⟨?_,?_,?_,?_,?_,?_,?_,?_,?_,?_,?_,?_,?_,?_,?_,?_,?_,?_,?_,?_,?_,?_,?_,?_,?_,?_,?_,?_,?_,?_,?_,?_,?_,?_,?_,?_,?_,?_,?_,?_,?_,?_,?_,?_,?_,?_,?_,trivial⟩ <;> intro a w1 live S E D C h0 hk hW
     ·have e8:a.eval (.tmp 8)=.pointer (some ⟨gc,0,none⟩):=E 8 rfl
      have hc0:=(HCE.out _ hW).c0
      have hc1:=(HCE.out _ hW).c1
      have hc2:=(HCE.out _ hW).c2
      exact Rgs.val rfl (Reg.wanted_free rfl) (.agg #[.slice A1 n1 c1,.slice A2 n2 c2,.slice (some ad3) n3 c3]) (by have c:=Reg.consts a;generalize a.eval=ρ at *;simp[execOp,go_sem,c.1,c.2,e8,hc0,hc1,hc2]) rfl hW
     ·have e9:a.eval (.tmp 9)=.slice AL L.length cl:=E 9 rfl
      exact Rgs.val rfl (Reg.wanted_free rfl) (.slice AL L.length cl) (by have c:=Reg.consts a;generalize a.eval=ρ at *;simp[execOp,go_sem,c.1,c.2,e9]) rfl hW
     ·have d0:a.eval (.tmp 47)=.agg #[.slice A1 n1 c1,.slice A2 n2 c2,.slice (some ad3) n3 c3]:=D 0 rfl _ _ rfl rfl
      have d1:a.eval (.tmp 48)=.slice AL L.length cl:=D 1 rfl _ _ rfl rfl
      have d0:a.eval (.tmp 47)=.agg #[.slice A1 n1 c1,.slice A2 n2 c2,.slice (some ad3) n3 c3]:=D 0 rfl _ _ rfl rfl
      have d1:a.eval (.tmp 48)=.slice AL L.length cl:=D 1 rfl _ _ rfl rfl
      refine Rgs.call rfl (Reg.wanted_free rfl) 11 #[.agg #[.slice A1 n1 c1,.slice A2 n2 c2,.slice (some ad3) n3 c3],.slice AL L.length cl] (by have c:=Reg.consts a;generalize a.eval=ρ at *;simp[execOp,go_sem,c.1,c.2,d0,d1]) ?_
      refine(HS1.out w1 hW).mono ?_
      rintro e wy ⟨rfl,hb5⟩
      exact⟨_,rfl,rfl,hW.bel hb5,fun j v _ hv=>keepV hb5 j v hv⟩
     ·have d2:a.eval (.tmp 49)=.bool true:=D 2 rfl _ _ rfl rfl
      exact Rgs.val rfl (Reg.wanted_free rfl) (.bool true) (by have c:=Reg.consts a;generalize a.eval=ρ at *;simp[execOp,go_sem,c.1,c.2,d2]) rfl hW
     ·have dg:a.eval (.tmp 50)=.bool true:=D 3 rfl _ _ rfl rfl
      have e10:a.eval (.tmp 10)=.pointer (some ⟨gd,0,none⟩):=E 10 rfl
      have hc0:=(HCE.out _ hW).d0
      have hc1:=(HCE.out _ hW).d1
      have hc2:=(HCE.out _ hW).d2
      exact Rgs.val rfl (Reg.wanted_if rfl rfl dg rfl) (.agg #[.slice A1 n1 c1,.slice A5 n2 c5,.slice (some ad3) n3 c3]) (by have c:=Reg.consts a;generalize a.eval=ρ at *;simp[execOp,go_sem,c.1,c.2,e10,hc0,hc1,hc2]) rfl hW
     ·have dg:a.eval (.tmp 50)=.bool true:=D 3 rfl _ _ rfl rfl
      have e9:a.eval (.tmp 9)=.slice AL L.length cl:=E 9 rfl
      exact Rgs.val rfl (Reg.wanted_if rfl rfl dg rfl) (.slice AL L.length cl) (by have c:=Reg.consts a;generalize a.eval=ρ at *;simp[execOp,go_sem,c.1,c.2,e9]) rfl hW
     ·have dg:a.eval (.tmp 50)=.bool true:=D 3 rfl _ _ rfl rfl
      have d4:a.eval (.tmp 51)=.agg #[.slice A1 n1 c1,.slice A5 n2 c5,.slice (some ad3) n3 c3]:=D 4 rfl _ _ rfl rfl
      have d5:a.eval (.tmp 52)=.slice AL L.length cl:=D 5 rfl _ _ rfl rfl
      have dg:a.eval (.tmp 50)=.bool true:=D 3 rfl _ _ rfl rfl
      have d4:a.eval (.tmp 51)=.agg #[.slice A1 n1 c1,.slice A5 n2 c5,.slice (some ad3) n3 c3]:=D 4 rfl _ _ rfl rfl
      have d5:a.eval (.tmp 52)=.slice AL L.length cl:=D 5 rfl _ _ rfl rfl
      refine Rgs.call rfl (Reg.wanted_if rfl rfl dg rfl) 11 #[.agg #[.slice A1 n1 c1,.slice A5 n2 c5,.slice (some ad3) n3 c3],.slice AL L.length cl] (by have c:=Reg.consts a;generalize a.eval=ρ at *;simp[execOp,go_sem,c.1,c.2,d4,d5]) ?_
      refine(HS2.out w1 hW).mono ?_
      rintro e wy ⟨rfl,hb5⟩
      exact⟨_,rfl,rfl,hW.bel hb5,fun j v _ hv=>keepV hb5 j v hv⟩
     ·have d3:a.eval (.tmp 50)=.bool true:=D 3 rfl _ _ rfl rfl
      have d6:a.eval (.tmp 53)=.bool true:=D 6 rfl _ _ rfl rfl
      exact Rgs.val rfl (Reg.wanted_free rfl) (.bool true) (by have c:=Reg.consts a;generalize a.eval=ρ at *;simp[execOp,go_sem,c.1,c.2,d3,d6]) rfl hW
     ·have d7:a.eval (.tmp 54)=.bool true:=D 7 rfl _ _ rfl rfl
      exact Rgs.val rfl (Reg.wanted_free rfl) (.bool true) (by have c:=Reg.consts a;generalize a.eval=ρ at *;simp[execOp,go_sem,c.1,c.2,d7]) rfl hW
     ·have dg:a.eval (.tmp 55)=.bool true:=D 8 rfl _ _ rfl rfl
      have e10:a.eval (.tmp 10)=.pointer (some ⟨gd,0,none⟩):=E 10 rfl
      have hc0:=(HCE.out _ hW).d0
      have hc1:=(HCE.out _ hW).d1
      have hc2:=(HCE.out _ hW).d2
      exact Rgs.val rfl (Reg.wanted_if rfl rfl dg rfl) (.agg #[.slice A1 n1 c1,.slice A5 n2 c5,.slice (some ad3) n3 c3]) (by have c:=Reg.consts a;generalize a.eval=ρ at *;simp[execOp,go_sem,c.1,c.2,e10,hc0,hc1,hc2]) rfl hW
     ·have dg:a.eval (.tmp 55)=.bool true:=D 8 rfl _ _ rfl rfl
      have e9:a.eval (.tmp 9)=.slice AL L.length cl:=E 9 rfl
      exact Rgs.val rfl (Reg.wanted_if rfl rfl dg rfl) (.slice AL L.length cl) (by have c:=Reg.consts a;generalize a.eval=ρ at *;simp[execOp,go_sem,c.1,c.2,e9]) rfl hW
     ·have dg:a.eval (.tmp 55)=.bool true:=D 8 rfl _ _ rfl rfl
      have d9:a.eval (.tmp 56)=.agg #[.slice A1 n1 c1,.slice A5 n2 c5,.slice (some ad3) n3 c3]:=D 9 rfl _ _ rfl rfl
      have d10:a.eval (.tmp 57)=.slice AL L.length cl:=D 10 rfl _ _ rfl rfl
      have dg:a.eval (.tmp 55)=.bool true:=D 8 rfl _ _ rfl rfl
      have d9:a.eval (.tmp 56)=.agg #[.slice A1 n1 c1,.slice A5 n2 c5,.slice (some ad3) n3 c3]:=D 9 rfl _ _ rfl rfl
      have d10:a.eval (.tmp 57)=.slice AL L.length cl:=D 10 rfl _ _ rfl rfl
      refine Rgs.call rfl (Reg.wanted_if rfl rfl dg rfl) 12 #[.agg #[.slice A1 n1 c1,.slice A5 n2 c5,.slice (some ad3) n3 c3],.slice AL L.length cl] (by have c:=Reg.consts a;generalize a.eval=ρ at *;simp[execOp,go_sem,c.1,c.2,d9,d10]) ?_
      refine(HPA.out w1 hW).mono ?_
      rintro e wy ⟨rfl,hb5⟩
      exact⟨_,rfl,rfl,hW.bel hb5,fun j v _ hv=>keepV hb5 j v hv⟩
     ·have d8:a.eval (.tmp 55)=.bool true:=D 8 rfl _ _ rfl rfl
      have d11:a.eval (.tmp 58)=.bool true:=D 11 rfl _ _ rfl rfl
      exact Rgs.val rfl (Reg.wanted_free rfl) (.bool true) (by have c:=Reg.consts a;generalize a.eval=ρ at *;simp[execOp,go_sem,c.1,c.2,d8,d11]) rfl hW
     ·have d12:a.eval (.tmp 59)=.bool true:=D 12 rfl _ _ rfl rfl
      exact Rgs.val rfl (Reg.wanted_free rfl) (.bool true) (by have c:=Reg.consts a;generalize a.eval=ρ at *;simp[execOp,go_sem,c.1,c.2,d12]) rfl hW
     ·have dg:a.eval (.tmp 60)=.bool true:=D 13 rfl _ _ rfl rfl
      have e8:a.eval (.tmp 8)=.pointer (some ⟨gc,0,none⟩):=E 8 rfl
      have hc0:=(HCE.out _ hW).c0
      have hc1:=(HCE.out _ hW).c1
      have hc2:=(HCE.out _ hW).c2
      exact Rgs.val rfl (Reg.wanted_if rfl rfl dg rfl) (.agg #[.slice A1 n1 c1,.slice A2 n2 c2,.slice (some ad3) n3 c3]) (by have c:=Reg.consts a;generalize a.eval=ρ at *;simp[execOp,go_sem,c.1,c.2,e8,hc0,hc1,hc2]) rfl hW
     ·have dg:a.eval (.tmp 60)=.bool true:=D 13 rfl _ _ rfl rfl
      have e8:a.eval (.tmp 8)=.pointer (some ⟨gc,0,none⟩):=E 8 rfl
      exact Rgs.val rfl (Reg.wanted_if rfl rfl dg rfl) (.pointer (some ⟨gc,2,none⟩)) (by have c:=Reg.consts a;generalize a.eval=ρ at *;simp[execOp,go_sem,c.1,c.2,e8]) rfl hW
     ·have dg:a.eval (.tmp 60)=.bool true:=D 13 rfl _ _ rfl rfl
      have d15:a.eval (.tmp 62)=.pointer (some ⟨gc,2,none⟩):=D 15 rfl _ _ rfl rfl
      have hc0:=(HCE.out _ hW).c2
      exact Rgs.val rfl (Reg.wanted_if rfl rfl dg rfl) (.slice (some ad3) n3 c3) (by have c:=Reg.consts a;generalize a.eval=ρ at *;simp[execOp,go_sem,c.1,c.2,d15,hc0]) rfl hW
     ·have dg:a.eval (.tmp 60)=.bool true:=D 13 rfl _ _ rfl rfl
      have d16:a.eval (.tmp 63)=.slice (some ad3) n3 c3:=D 16 rfl _ _ rfl rfl
      have i1:=hJ0.out.1
      have i2:=hJ0.out.2
      exact Rgs.val rfl (Reg.wanted_if rfl rfl dg rfl) (.pointer (some ad3)) (by have c:=Reg.consts a;generalize a.eval=ρ at *;simp[execOp,go_sem,c.1,c.2,d16,i1,i2]) rfl hW
     ·have dg:a.eval (.tmp 60)=.bool true:=D 13 rfl _ _ rfl rfl
      have d17:a.eval (.tmp 64)=.pointer (some ad3):=D 17 rfl _ _ rfl rfl
      have hc0:=(HCE.out _ hW).t0
      exact Rgs.val rfl (Reg.wanted_if rfl rfl dg rfl) (.slice tA tn tc) (by have c:=Reg.consts a;generalize a.eval=ρ at *;simp[execOp,go_sem,c.1,c.2,d17,hc0]) rfl hW
     ·have dg:a.eval (.tmp 60)=.bool true:=D 13 rfl _ _ rfl rfl
      have d14:a.eval (.tmp 61)=.agg #[.slice A1 n1 c1,.slice A2 n2 c2,.slice (some ad3) n3 c3]:=D 14 rfl _ _ rfl rfl
      have d18:a.eval (.tmp 65)=.slice tA tn tc:=D 18 rfl _ _ rfl rfl
      have dg:a.eval (.tmp 60)=.bool true:=D 13 rfl _ _ rfl rfl
      have d14:a.eval (.tmp 61)=.agg #[.slice A1 n1 c1,.slice A2 n2 c2,.slice (some ad3) n3 c3]:=D 14 rfl _ _ rfl rfl
      have d18:a.eval (.tmp 65)=.slice tA tn tc:=D 18 rfl _ _ rfl rfl
      refine Rgs.call rfl (Reg.wanted_if rfl rfl dg rfl) 13 #[.agg #[.slice A1 n1 c1,.slice A2 n2 c2,.slice (some ad3) n3 c3],.slice tA tn tc] (by have c:=Reg.consts a;generalize a.eval=ρ at *;simp[execOp,go_sem,c.1,c.2,d14,d18]) ?_
      refine(HT1.out w1 hW).mono ?_
      rintro e wy ⟨rfl,hb5⟩
      exact⟨_,rfl,rfl,hW.bel hb5,fun j v _ hv=>keepV hb5 j v hv⟩
     ·have d13:a.eval (.tmp 60)=.bool true:=D 13 rfl _ _ rfl rfl
      have d19:a.eval (.tmp 66)=.bool true:=D 19 rfl _ _ rfl rfl
      exact Rgs.val rfl (Reg.wanted_free rfl) (.bool true) (by have c:=Reg.consts a;generalize a.eval=ρ at *;simp[execOp,go_sem,c.1,c.2,d13,d19]) rfl hW
     ·have d20:a.eval (.tmp 67)=.bool true:=D 20 rfl _ _ rfl rfl
      exact Rgs.val rfl (Reg.wanted_free rfl) (.bool true) (by have c:=Reg.consts a;generalize a.eval=ρ at *;simp[execOp,go_sem,c.1,c.2,d20]) rfl hW
     ·have dg:a.eval (.tmp 68)=.bool true:=D 21 rfl _ _ rfl rfl
      have e10:a.eval (.tmp 10)=.pointer (some ⟨gd,0,none⟩):=E 10 rfl
      have hc0:=(HCE.out _ hW).d0
      have hc1:=(HCE.out _ hW).d1
      have hc2:=(HCE.out _ hW).d2
      exact Rgs.val rfl (Reg.wanted_if rfl rfl dg rfl) (.agg #[.slice A1 n1 c1,.slice A5 n2 c5,.slice (some ad3) n3 c3]) (by have c:=Reg.consts a;generalize a.eval=ρ at *;simp[execOp,go_sem,c.1,c.2,e10,hc0,hc1,hc2]) rfl hW
     ·have dg:a.eval (.tmp 68)=.bool true:=D 21 rfl _ _ rfl rfl
      have e8:a.eval (.tmp 8)=.pointer (some ⟨gc,0,none⟩):=E 8 rfl
      exact Rgs.val rfl (Reg.wanted_if rfl rfl dg rfl) (.pointer (some ⟨gc,2,none⟩)) (by have c:=Reg.consts a;generalize a.eval=ρ at *;simp[execOp,go_sem,c.1,c.2,e8]) rfl hW
     ·have dg:a.eval (.tmp 68)=.bool true:=D 21 rfl _ _ rfl rfl
      have d23:a.eval (.tmp 70)=.pointer (some ⟨gc,2,none⟩):=D 23 rfl _ _ rfl rfl
      have hc0:=(HCE.out _ hW).c2
      exact Rgs.val rfl (Reg.wanted_if rfl rfl dg rfl) (.slice (some ad3) n3 c3) (by have c:=Reg.consts a;generalize a.eval=ρ at *;simp[execOp,go_sem,c.1,c.2,d23,hc0]) rfl hW
     ·have dg:a.eval (.tmp 68)=.bool true:=D 21 rfl _ _ rfl rfl
      have d24:a.eval (.tmp 71)=.slice (some ad3) n3 c3:=D 24 rfl _ _ rfl rfl
      have i1:=hJ0.out.1
      have i2:=hJ0.out.2
      exact Rgs.val rfl (Reg.wanted_if rfl rfl dg rfl) (.pointer (some ad3)) (by have c:=Reg.consts a;generalize a.eval=ρ at *;simp[execOp,go_sem,c.1,c.2,d24,i1,i2]) rfl hW
     ·have dg:a.eval (.tmp 68)=.bool true:=D 21 rfl _ _ rfl rfl
      have d25:a.eval (.tmp 72)=.pointer (some ad3):=D 25 rfl _ _ rfl rfl
      have hc0:=(HCE.out _ hW).t0
      exact Rgs.val rfl (Reg.wanted_if rfl rfl dg rfl) (.slice tA tn tc) (by have c:=Reg.consts a;generalize a.eval=ρ at *;simp[execOp,go_sem,c.1,c.2,d25,hc0]) rfl hW
     ·have dg:a.eval (.tmp 68)=.bool true:=D 21 rfl _ _ rfl rfl
      have d22:a.eval (.tmp 69)=.agg #[.slice A1 n1 c1,.slice A5 n2 c5,.slice (some ad3) n3 c3]:=D 22 rfl _ _ rfl rfl
      have d26:a.eval (.tmp 73)=.slice tA tn tc:=D 26 rfl _ _ rfl rfl
      have dg:a.eval (.tmp 68)=.bool true:=D 21 rfl _ _ rfl rfl
      have d22:a.eval (.tmp 69)=.agg #[.slice A1 n1 c1,.slice A5 n2 c5,.slice (some ad3) n3 c3]:=D 22 rfl _ _ rfl rfl
      have d26:a.eval (.tmp 73)=.slice tA tn tc:=D 26 rfl _ _ rfl rfl
      refine Rgs.call rfl (Reg.wanted_if rfl rfl dg rfl) 13 #[.agg #[.slice A1 n1 c1,.slice A5 n2 c5,.slice (some ad3) n3 c3],.slice tA tn tc] (by have c:=Reg.consts a;generalize a.eval=ρ at *;simp[execOp,go_sem,c.1,c.2,d22,d26]) ?_
      refine(HT2.out w1 hW).mono ?_
      rintro e wy ⟨rfl,hb5⟩
      exact⟨_,rfl,rfl,hW.bel hb5,fun j v _ hv=>keepV hb5 j v hv⟩
     ·have d21:a.eval (.tmp 68)=.bool true:=D 21 rfl _ _ rfl rfl
      have d27:a.eval (.tmp 74)=.bool true:=D 27 rfl _ _ rfl rfl
      exact Rgs.val rfl (Reg.wanted_free rfl) (.bool true) (by have c:=Reg.consts a;generalize a.eval=ρ at *;simp[execOp,go_sem,c.1,c.2,d21,d27]) rfl hW
     ·have d28:a.eval (.tmp 75)=.bool true:=D 28 rfl _ _ rfl rfl
      exact Rgs.val rfl (Reg.wanted_free rfl) (.bool true) (by have c:=Reg.consts a;generalize a.eval=ρ at *;simp[execOp,go_sem,c.1,c.2,d28]) rfl hW
     ·have dg:a.eval (.tmp 76)=.bool true:=D 29 rfl _ _ rfl rfl
      have e8:a.eval (.tmp 8)=.pointer (some ⟨gc,0,none⟩):=E 8 rfl
      have hc0:=(HCE.out _ hW).c0
      have hc1:=(HCE.out _ hW).c1
      have hc2:=(HCE.out _ hW).c2
      exact Rgs.val rfl (Reg.wanted_if rfl rfl dg rfl) (.agg #[.slice A1 n1 c1,.slice A2 n2 c2,.slice (some ad3) n3 c3]) (by have c:=Reg.consts a;generalize a.eval=ρ at *;simp[execOp,go_sem,c.1,c.2,e8,hc0,hc1,hc2]) rfl hW
     ·have dg:a.eval (.tmp 76)=.bool true:=D 29 rfl _ _ rfl rfl
      have e7:a.eval (.tmp 7)=.pointer (some ⟨b,0,none⟩):=E 7 rfl
      exact Rgs.val rfl (Reg.wanted_if rfl rfl dg rfl) (.pointer (some ⟨b,0,none⟩)) (by have c:=Reg.consts a;generalize a.eval=ρ at *;simp[execOp,go_sem,c.1,c.2,e7]) rfl hW
     ·have dg:a.eval (.tmp 76)=.bool true:=D 29 rfl _ _ rfl rfl
      have e8:a.eval (.tmp 8)=.pointer (some ⟨gc,0,none⟩):=E 8 rfl
      exact Rgs.val rfl (Reg.wanted_if rfl rfl dg rfl) (.pointer (some ⟨gc,0,none⟩)) (by have c:=Reg.consts a;generalize a.eval=ρ at *;simp[execOp,go_sem,c.1,c.2,e8]) rfl hW
     ·have dg:a.eval (.tmp 76)=.bool true:=D 29 rfl _ _ rfl rfl
      have d32:a.eval (.tmp 79)=.pointer (some ⟨gc,0,none⟩):=D 32 rfl _ _ rfl rfl
      have hc0:=(HCE.out _ hW).c0
      have hc1:=(HCE.out _ hW).c1
      have hc2:=(HCE.out _ hW).c2
      exact Rgs.val rfl (Reg.wanted_if rfl rfl dg rfl) (.slice A1 n1 c1) (by have c:=Reg.consts a;generalize a.eval=ρ at *;simp[execOp,go_sem,c.1,c.2,d32,hc0,hc1,hc2]) rfl hW
     ·have dg:a.eval (.tmp 76)=.bool true:=D 29 rfl _ _ rfl rfl
      have d33:a.eval (.tmp 80)=.slice A1 n1 c1:=D 33 rfl _ _ rfl rfl
      exact Rgs.val rfl (Reg.wanted_if rfl rfl dg rfl) (.int .i64 (n1:Int)) (by have c:=Reg.consts a;generalize a.eval=ρ at *;simp[execOp,go_sem,c.1,c.2,d33]) rfl hW
     ·have dg:a.eval (.tmp 76)=.bool true:=D 29 rfl _ _ rfl rfl
      have d31:a.eval (.tmp 78)=.pointer (some ⟨b,0,none⟩):=D 31 rfl _ _ rfl rfl
      have d34:a.eval (.tmp 81)=.int .i64 (n1:Int):=D 34 rfl _ _ rfl rfl
      have dg:a.eval (.tmp 76)=.bool true:=D 29 rfl _ _ rfl rfl
      have d31:a.eval (.tmp 78)=.pointer (some ⟨b,0,none⟩):=D 31 rfl _ _ rfl rfl
      have d34:a.eval (.tmp 81)=.int .i64 (n1:Int):=D 34 rfl _ _ rfl rfl
      refine Rgs.call rfl (Reg.wanted_if rfl rfl dg rfl) 14 #[.pointer (some ⟨b,0,none⟩),.int .i64 (n1:Int),.int .i64 3] (by have c:=Reg.consts a;generalize a.eval=ρ at *;simp[execOp,go_sem,c.1,c.2,d31,d34]) ?_
      refine(tblt_any (by omega) n1 (by omega) (by omega) w1 hW).mono ?_
      rintro e wy ⟨A',n',c',l',rfl,hr',hc',hn',hT'⟩
      refine⟨_,rfl,⟨A',n',c',l',rfl,hr',hc',hn'⟩,hT',fun j v hl hv=>?_⟩
      by_cases hj:j=35
      ·subst hj
       rw[h0] at hl
       cases hl
      ·exact moveV hj v hv
     ·have dg:a.eval (.tmp 76)=.bool true:=D 29 rfl _ _ rfl rfl
      have d30:a.eval (.tmp 77)=.agg #[.slice A1 n1 c1,.slice A2 n2 c2,.slice (some ad3) n3 c3]:=D 30 rfl _ _ rfl rfl
      have dg:a.eval (.tmp 76)=.bool true:=D 29 rfl _ _ rfl rfl
      have d30:a.eval (.tmp 77)=.agg #[.slice A1 n1 c1,.slice A2 n2 c2,.slice (some ad3) n3 c3]:=D 30 rfl _ _ rfl rfl
      obtain⟨A',n',c',l',e35,hr',hc',hn'⟩:TblV (a.eval (.tmp 82)) w1:=D 35 rfl _ _ rfl rfl
      refine Rgs.call rfl (Reg.wanted_if rfl rfl dg rfl) 13 #[.agg #[.slice A1 n1 c1,.slice A2 n2 c2,.slice (some ad3) n3 c3],.slice A' n' c'] (by have c:=Reg.consts a;generalize a.eval=ρ at *;simp[execOp,go_sem,c.1,c.2,d30,e35]) ?_
      refine(HTB.out A' n' c' l' w1 hW hr' hc' hn').mono ?_
      rintro e wy ⟨rfl,hb5⟩
      exact⟨_,rfl,rfl,hW.bel hb5,fun j v _ hv=>keepV hb5 j v hv⟩
     ·have d29:a.eval (.tmp 76)=.bool true:=D 29 rfl _ _ rfl rfl
      have d36:a.eval (.tmp 83)=.bool true:=D 36 rfl _ _ rfl rfl
      exact Rgs.val rfl (Reg.wanted_free rfl) (.bool true) (by have c:=Reg.consts a;generalize a.eval=ρ at *;simp[execOp,go_sem,c.1,c.2,d29,d36]) rfl hW
     ·have d37:a.eval (.tmp 84)=.bool true:=D 37 rfl _ _ rfl rfl
      exact Rgs.val rfl (Reg.wanted_free rfl) (.bool true) (by have c:=Reg.consts a;generalize a.eval=ρ at *;simp[execOp,go_sem,c.1,c.2,d37]) rfl hW
     ·have dg:a.eval (.tmp 85)=.bool true:=D 38 rfl _ _ rfl rfl
      have e8:a.eval (.tmp 8)=.pointer (some ⟨gc,0,none⟩):=E 8 rfl
      have hc0:=(HCE.out _ hW).c0
      have hc1:=(HCE.out _ hW).c1
      have hc2:=(HCE.out _ hW).c2
      exact Rgs.val rfl (Reg.wanted_if rfl rfl dg rfl) (.agg #[.slice A1 n1 c1,.slice A2 n2 c2,.slice (some ad3) n3 c3]) (by have c:=Reg.consts a;generalize a.eval=ρ at *;simp[execOp,go_sem,c.1,c.2,e8,hc0,hc1,hc2]) rfl hW
     ·have dg:a.eval (.tmp 85)=.bool true:=D 38 rfl _ _ rfl rfl
      have e2:a.eval (.tmp 2)=.slice (some adr) 50 kr:=E 2 rfl
      exact Rgs.val rfl (Reg.wanted_if rfl rfl dg rfl) (.slice (some adr) 50 kr) (by have c:=Reg.consts a;generalize a.eval=ρ at *;simp[execOp,go_sem,c.1,c.2,e2]) rfl hW
     ·have dg:a.eval (.tmp 85)=.bool true:=D 38 rfl _ _ rfl rfl
      have d39:a.eval (.tmp 86)=.agg #[.slice A1 n1 c1,.slice A2 n2 c2,.slice (some ad3) n3 c3]:=D 39 rfl _ _ rfl rfl
      have d40:a.eval (.tmp 87)=.slice (some adr) 50 kr:=D 40 rfl _ _ rfl rfl
      have dg:a.eval (.tmp 85)=.bool true:=D 38 rfl _ _ rfl rfl
      have d39:a.eval (.tmp 86)=.agg #[.slice A1 n1 c1,.slice A2 n2 c2,.slice (some ad3) n3 c3]:=D 39 rfl _ _ rfl rfl
      have d40:a.eval (.tmp 87)=.slice (some adr) 50 kr:=D 40 rfl _ _ rfl rfl
      refine Rgs.call rfl (Reg.wanted_if rfl rfl dg rfl) 13 #[.agg #[.slice A1 n1 c1,.slice A2 n2 c2,.slice (some ad3) n3 c3],.slice (some adr) 50 kr] (by have c:=Reg.consts a;generalize a.eval=ρ at *;simp[execOp,go_sem,c.1,c.2,d39,d40]) ?_
      refine(HT3.out w1 hW).mono ?_
      rintro e wy ⟨rfl,hb5⟩
      exact⟨_,rfl,rfl,hW.bel hb5,fun j v _ hv=>keepV hb5 j v hv⟩
     ·have d38:a.eval (.tmp 85)=.bool true:=D 38 rfl _ _ rfl rfl
      have d41:a.eval (.tmp 88)=.bool true:=D 41 rfl _ _ rfl rfl
      exact Rgs.val rfl (Reg.wanted_free rfl) (.bool true) (by have c:=Reg.consts a;generalize a.eval=ρ at *;simp[execOp,go_sem,c.1,c.2,d38,d41]) rfl hW
     ·have d42:a.eval (.tmp 89)=.bool true:=D 42 rfl _ _ rfl rfl
      exact Rgs.val rfl (Reg.wanted_free rfl) (.bool true) (by have c:=Reg.consts a;generalize a.eval=ρ at *;simp[execOp,go_sem,c.1,c.2,d42]) rfl hW
     ·have dg:a.eval (.tmp 90)=.bool true:=D 43 rfl _ _ rfl rfl
      have dg:a.eval (.tmp 90)=.bool true:=D 43 rfl _ _ rfl rfl
      refine Rgs.call rfl (Reg.wanted_if rfl rfl dg rfl) 15 #[] (by have c:=Reg.consts a;generalize a.eval=ρ at *;simp[execOp,go_sem,c.1,c.2,go_sem]) ?_
      refine(H.known w1).mono ?_
      rintro e wy ⟨rfl,hb5⟩
      exact⟨_,rfl,rfl,hW.bel hb5,fun j v _ hv=>keepV hb5 j v hv⟩
     ·have d43:a.eval (.tmp 90)=.bool true:=D 43 rfl _ _ rfl rfl
      have d44:a.eval (.tmp 91)=.bool true:=D 44 rfl _ _ rfl rfl
      exact Rgs.val rfl (Reg.wanted_free rfl) (.bool true) (by have c:=Reg.consts a;generalize a.eval=ρ at *;simp[execOp,go_sem,c.1,c.2,d43,d44]) rfl hW
     ·have d45:a.eval (.tmp 92)=.bool true:=D 45 rfl _ _ rfl rfl
      exact Rgs.val rfl (Reg.wanted_free rfl) (.bool true) (by have c:=Reg.consts a;generalize a.eval=ρ at *;simp[execOp,go_sem,c.1,c.2,d45]) rfl hW
    ·intro a w9 live hs hd E Dv Hl hW
     have e6:a.eval (.tmp 6)=.bool true:=by
      obtain⟨v,hv,he⟩:=Dv 46 _ rfl
      exact(he 6 rfl).trans hv
     rw[Rgs.act_ws a _ _ hs hd E [47,48,49,50,51,52,53,54,55,56,57,58,59,60,61,62,63,64,65,66,67,68,69,70,71,72,73,74,75,76,77,78,79,80,81,82,83,84,85,86,87,88,89,90,91,92,6] (by kernel_rfl)]
     simp only[List.foldl,List.setIfInBounds_toArray,List.set_cons_succ,List.set_cons_zero,e6]
     have HFF:=hid (HB5.out.trans (hW.base HLW.out HB5.out.size))
     clear E Dv Hl hW e6
     generalize a.eval=ρ
     clear a hs hd
     go_wp2_with fail
     go_ret
     exact Ans.mk rfl HFF.out
   ·have h50i:¬ (50:Int) < (nr0:Int):=by omega
    have HT3:=hid fun U (hU:Tpe w5 b A0 n0 k0 f0 U)=>HTB.out AR nr0 kr lr U hU (HRB.out U hU) (by omega) (by omega)
    go_wp2_with fail
    clear y0 y1 y2 h50 h50i
    refine Rgs.region (by kernel_rfl) (by kernel_rfl) (fun(opn:Nat) (vl:Value) (wv:World)=>match opn with | 0=>vl=.agg #[.slice A1 n1 c1,.slice A2 n2 c2,.slice (some ad3) n3 c3] | 1=>vl=.slice AL L.length cl | 2=>vl=.bool true | 3=>vl=.bool true | 4=>vl=.agg #[.slice A1 n1 c1,.slice A5 n2 c5,.slice (some ad3) n3 c3] | 5=>vl=.slice AL L.length cl | 6=>vl=.bool true | 7=>vl=.bool true | 8=>vl=.bool true | 9=>vl=.agg #[.slice A1 n1 c1,.slice A5 n2 c5,.slice (some ad3) n3 c3] | 10=>vl=.slice AL L.length cl | 11=>vl=.bool true | 12=>vl=.bool true | 13=>vl=.bool true | 14=>vl=.agg #[.slice A1 n1 c1,.slice A2 n2 c2,.slice (some ad3) n3 c3] | 15=>vl=.pointer (some ⟨gc,2,none⟩) | 16=>vl=.slice (some ad3) n3 c3 | 17=>vl=.pointer (some ad3) | 18=>vl=.slice tA tn tc | 19=>vl=.bool true | 20=>vl=.bool true | 21=>vl=.bool true | 22=>vl=.agg #[.slice A1 n1 c1,.slice A5 n2 c5,.slice (some ad3) n3 c3] | 23=>vl=.pointer (some ⟨gc,2,none⟩) | 24=>vl=.slice (some ad3) n3 c3 | 25=>vl=.pointer (some ad3) | 26=>vl=.slice tA tn tc | 27=>vl=.bool true | 28=>vl=.bool true | 29=>vl=.bool true | 30=>vl=.agg #[.slice A1 n1 c1,.slice A2 n2 c2,.slice (some ad3) n3 c3] | 31=>vl=.pointer (some ⟨b,0,none⟩) | 32=>vl=.pointer (some ⟨gc,0,none⟩) | 33=>vl=.slice A1 n1 c1 | 34=>vl=.int .i64 (n1:Int) | 35=>TblV vl wv | 36=>vl=.bool true | 37=>vl=.bool true | 38=>vl=.bool true | 39=>vl=.agg #[.slice A1 n1 c1,.slice A2 n2 c2,.slice (some ad3) n3 c3] | 40=>vl=.slice AR nr0 kr | 41=>vl=.bool true | 42=>vl=.bool true | 43=>vl=.bool true | 44=>vl=.bool true | 45=>vl=.bool true | 46=>vl=.bool true | _=>True) (fun _ _ w'=>Tpe w5 b A0 n0 k0 f0 w') (HTP.out.bel (Below.refl _ _).drew) (Rgs.steps_of ?_) ?_
    ·have keepV:∀ {wx wy:World} (hb5:Below wx.heap.size wx wy) (jq:Nat) (vq:Value),(fun(opn:Nat) (vl:Value) (wv:World)=>match opn with | 0=>vl=.agg #[.slice A1 n1 c1,.slice A2 n2 c2,.slice (some ad3) n3 c3] | 1=>vl=.slice AL L.length cl | 2=>vl=.bool true | 3=>vl=.bool true | 4=>vl=.agg #[.slice A1 n1 c1,.slice A5 n2 c5,.slice (some ad3) n3 c3] | 5=>vl=.slice AL L.length cl | 6=>vl=.bool true | 7=>vl=.bool true | 8=>vl=.bool true | 9=>vl=.agg #[.slice A1 n1 c1,.slice A5 n2 c5,.slice (some ad3) n3 c3] | 10=>vl=.slice AL L.length cl | 11=>vl=.bool true | 12=>vl=.bool true | 13=>vl=.bool true | 14=>vl=.agg #[.slice A1 n1 c1,.slice A2 n2 c2,.slice (some ad3) n3 c3] | 15=>vl=.pointer (some ⟨gc,2,none⟩) | 16=>vl=.slice (some ad3) n3 c3 | 17=>vl=.pointer (some ad3) | 18=>vl=.slice tA tn tc | 19=>vl=.bool true | 20=>vl=.bool true | 21=>vl=.bool true | 22=>vl=.agg #[.slice A1 n1 c1,.slice A5 n2 c5,.slice (some ad3) n3 c3] | 23=>vl=.pointer (some ⟨gc,2,none⟩) | 24=>vl=.slice (some ad3) n3 c3 | 25=>vl=.pointer (some ad3) | 26=>vl=.slice tA tn tc | 27=>vl=.bool true | 28=>vl=.bool true | 29=>vl=.bool true | 30=>vl=.agg #[.slice A1 n1 c1,.slice A2 n2 c2,.slice (some ad3) n3 c3] | 31=>vl=.pointer (some ⟨b,0,none⟩) | 32=>vl=.pointer (some ⟨gc,0,none⟩) | 33=>vl=.slice A1 n1 c1 | 34=>vl=.int .i64 (n1:Int) | 35=>TblV vl wv | 36=>vl=.bool true | 37=>vl=.bool true | 38=>vl=.bool true | 39=>vl=.agg #[.slice A1 n1 c1,.slice A2 n2 c2,.slice (some ad3) n3 c3] | 40=>vl=.slice AR nr0 kr | 41=>vl=.bool true | 42=>vl=.bool true | 43=>vl=.bool true | 44=>vl=.bool true | 45=>vl=.bool true | 46=>vl=.bool true | _=>True) jq vq wx→(fun(opn:Nat) (vl:Value) (wv:World)=>match opn with | 0=>vl=.agg #[.slice A1 n1 c1,.slice A2 n2 c2,.slice (some ad3) n3 c3] | 1=>vl=.slice AL L.length cl | 2=>vl=.bool true | 3=>vl=.bool true | 4=>vl=.agg #[.slice A1 n1 c1,.slice A5 n2 c5,.slice (some ad3) n3 c3] | 5=>vl=.slice AL L.length cl | 6=>vl=.bool true | 7=>vl=.bool true | 8=>vl=.bool true | 9=>vl=.agg #[.slice A1 n1 c1,.slice A5 n2 c5,.slice (some ad3) n3 c3] | 10=>vl=.slice AL L.length cl | 11=>vl=.bool true | 12=>vl=.bool true | 13=>vl=.bool true | 14=>vl=.agg #[.slice A1 n1 c1,.slice A2 n2 c2,.slice (some ad3) n3 c3] | 15=>vl=.pointer (some ⟨gc,2,none⟩) | 16=>vl=.slice (some ad3) n3 c3 | 17=>vl=.pointer (some ad3) | 18=>vl=.slice tA tn tc | 19=>vl=.bool true | 20=>vl=.bool true | 21=>vl=.bool true | 22=>vl=.agg #[.slice A1 n1 c1,.slice A5 n2 c5,.slice (some ad3) n3 c3] | 23=>vl=.pointer (some ⟨gc,2,none⟩) | 24=>vl=.slice (some ad3) n3 c3 | 25=>vl=.pointer (some ad3) | 26=>vl=.slice tA tn tc | 27=>vl=.bool true | 28=>vl=.bool true | 29=>vl=.bool true | 30=>vl=.agg #[.slice A1 n1 c1,.slice A2 n2 c2,.slice (some ad3) n3 c3] | 31=>vl=.pointer (some ⟨b,0,none⟩) | 32=>vl=.pointer (some ⟨gc,0,none⟩) | 33=>vl=.slice A1 n1 c1 | 34=>vl=.int .i64 (n1:Int) | 35=>TblV vl wv | 36=>vl=.bool true | 37=>vl=.bool true | 38=>vl=.bool true | 39=>vl=.agg #[.slice A1 n1 c1,.slice A2 n2 c2,.slice (some ad3) n3 c3] | 40=>vl=.slice AR nr0 kr | 41=>vl=.bool true | 42=>vl=.bool true | 43=>vl=.bool true | 44=>vl=.bool true | 45=>vl=.bool true | 46=>vl=.bool true | _=>True) jq vq wy:=by
      intro wx wy hb5 jq vq h
      revert h
      match jq with
      | 35=>exact fun h=>TblV.on h hb5
      | 0 | 1 | 2 | 3 | 4 | 5 | 6 | 7 | 8 | 9 | 10 | 11 | 12 | 13 | 14 | 15 | 16 | 17 | 18 | 19 | 20 | 21 | 22 | 23 | 24 | 25 | 26 | 27 | 28 | 29 | 30 | 31 | 32 | 33 | 34 | 36 | 37 | 38 | 39 | 40 | 41 | 42 | 43 | 44 | 45 | 46 | _+47=>exact fun h=>h
     have moveV:∀ {wx wy:World} {jq:Nat} (hj:jq≠35) (vq:Value),(fun(opn:Nat) (vl:Value) (wv:World)=>match opn with | 0=>vl=.agg #[.slice A1 n1 c1,.slice A2 n2 c2,.slice (some ad3) n3 c3] | 1=>vl=.slice AL L.length cl | 2=>vl=.bool true | 3=>vl=.bool true | 4=>vl=.agg #[.slice A1 n1 c1,.slice A5 n2 c5,.slice (some ad3) n3 c3] | 5=>vl=.slice AL L.length cl | 6=>vl=.bool true | 7=>vl=.bool true | 8=>vl=.bool true | 9=>vl=.agg #[.slice A1 n1 c1,.slice A5 n2 c5,.slice (some ad3) n3 c3] | 10=>vl=.slice AL L.length cl | 11=>vl=.bool true | 12=>vl=.bool true | 13=>vl=.bool true | 14=>vl=.agg #[.slice A1 n1 c1,.slice A2 n2 c2,.slice (some ad3) n3 c3] | 15=>vl=.pointer (some ⟨gc,2,none⟩) | 16=>vl=.slice (some ad3) n3 c3 | 17=>vl=.pointer (some ad3) | 18=>vl=.slice tA tn tc | 19=>vl=.bool true | 20=>vl=.bool true | 21=>vl=.bool true | 22=>vl=.agg #[.slice A1 n1 c1,.slice A5 n2 c5,.slice (some ad3) n3 c3] | 23=>vl=.pointer (some ⟨gc,2,none⟩) | 24=>vl=.slice (some ad3) n3 c3 | 25=>vl=.pointer (some ad3) | 26=>vl=.slice tA tn tc | 27=>vl=.bool true | 28=>vl=.bool true | 29=>vl=.bool true | 30=>vl=.agg #[.slice A1 n1 c1,.slice A2 n2 c2,.slice (some ad3) n3 c3] | 31=>vl=.pointer (some ⟨b,0,none⟩) | 32=>vl=.pointer (some ⟨gc,0,none⟩) | 33=>vl=.slice A1 n1 c1 | 34=>vl=.int .i64 (n1:Int) | 35=>TblV vl wv | 36=>vl=.bool true | 37=>vl=.bool true | 38=>vl=.bool true | 39=>vl=.agg #[.slice A1 n1 c1,.slice A2 n2 c2,.slice (some ad3) n3 c3] | 40=>vl=.slice AR nr0 kr | 41=>vl=.bool true | 42=>vl=.bool true | 43=>vl=.bool true | 44=>vl=.bool true | 45=>vl=.bool true | 46=>vl=.bool true | _=>True) jq vq wx→(fun(opn:Nat) (vl:Value) (wv:World)=>match opn with | 0=>vl=.agg #[.slice A1 n1 c1,.slice A2 n2 c2,.slice (some ad3) n3 c3] | 1=>vl=.slice AL L.length cl | 2=>vl=.bool true | 3=>vl=.bool true | 4=>vl=.agg #[.slice A1 n1 c1,.slice A5 n2 c5,.slice (some ad3) n3 c3] | 5=>vl=.slice AL L.length cl | 6=>vl=.bool true | 7=>vl=.bool true | 8=>vl=.bool true | 9=>vl=.agg #[.slice A1 n1 c1,.slice A5 n2 c5,.slice (some ad3) n3 c3] | 10=>vl=.slice AL L.length cl | 11=>vl=.bool true | 12=>vl=.bool true | 13=>vl=.bool true | 14=>vl=.agg #[.slice A1 n1 c1,.slice A2 n2 c2,.slice (some ad3) n3 c3] | 15=>vl=.pointer (some ⟨gc,2,none⟩) | 16=>vl=.slice (some ad3) n3 c3 | 17=>vl=.pointer (some ad3) | 18=>vl=.slice tA tn tc | 19=>vl=.bool true | 20=>vl=.bool true | 21=>vl=.bool true | 22=>vl=.agg #[.slice A1 n1 c1,.slice A5 n2 c5,.slice (some ad3) n3 c3] | 23=>vl=.pointer (some ⟨gc,2,none⟩) | 24=>vl=.slice (some ad3) n3 c3 | 25=>vl=.pointer (some ad3) | 26=>vl=.slice tA tn tc | 27=>vl=.bool true | 28=>vl=.bool true | 29=>vl=.bool true | 30=>vl=.agg #[.slice A1 n1 c1,.slice A2 n2 c2,.slice (some ad3) n3 c3] | 31=>vl=.pointer (some ⟨b,0,none⟩) | 32=>vl=.pointer (some ⟨gc,0,none⟩) | 33=>vl=.slice A1 n1 c1 | 34=>vl=.int .i64 (n1:Int) | 35=>TblV vl wv | 36=>vl=.bool true | 37=>vl=.bool true | 38=>vl=.bool true | 39=>vl=.agg #[.slice A1 n1 c1,.slice A2 n2 c2,.slice (some ad3) n3 c3] | 40=>vl=.slice AR nr0 kr | 41=>vl=.bool true | 42=>vl=.bool true | 43=>vl=.bool true | 44=>vl=.bool true | 45=>vl=.bool true | 46=>vl=.bool true | _=>True) jq vq wy:=by
      intro wx wy jq hj vq h
      revert h
      match jq,hj with
      | 35,hj=>exact absurd rfl hj
      | 0,_ | 1,_ | 2,_ | 3,_ | 4,_ | 5,_ | 6,_ | 7,_ | 8,_ | 9,_ | 10,_ | 11,_ | 12,_ | 13,_ | 14,_ | 15,_ | 16,_ | 17,_ | 18,_ | 19,_ | 20,_ | 21,_ | 22,_ | 23,_ | 24,_ | 25,_ | 26,_ | 27,_ | 28,_ | 29,_ | 30,_ | 31,_ | 32,_ | 33,_ | 34,_ | 36,_ | 37,_ | 38,_ | 39,_ | 40,_ | 41,_ | 42,_ | 43,_ | 44,_ | 45,_ | 46,_ | _+47,_=>exact fun h=>h
     refine⟨?_,?_,?_,?_,?_,?_,?_,?_,?_,?_,?_,?_,?_,?_,?_,?_,?_,?_,?_,?_,?_,?_,?_,?_,?_,?_,?_,?_,?_,?_,?_,?_,?_,?_,?_,?_,?_,?_,?_,?_,?_,?_,?_,?_,?_,?_,?_,trivial⟩ <;> intro a w1 live S E D C h0 hk hW
     ·have e8:a.eval (.tmp 8)=.pointer (some ⟨gc,0,none⟩):=E 8 rfl
      have hc0:=(HCE.out _ hW).c0
      have hc1:=(HCE.out _ hW).c1
      have hc2:=(HCE.out _ hW).c2
      exact Rgs.val rfl (Reg.wanted_free rfl) (.agg #[.slice A1 n1 c1,.slice A2 n2 c2,.slice (some ad3) n3 c3]) (by have c:=Reg.consts a;generalize a.eval=ρ at *;simp[execOp,go_sem,c.1,c.2,e8,hc0,hc1,hc2]) rfl hW
     ·have e9:a.eval (.tmp 9)=.slice AL L.length cl:=E 9 rfl
      exact Rgs.val rfl (Reg.wanted_free rfl) (.slice AL L.length cl) (by have c:=Reg.consts a;generalize a.eval=ρ at *;simp[execOp,go_sem,c.1,c.2,e9]) rfl hW
     ·have d0:a.eval (.tmp 47)=.agg #[.slice A1 n1 c1,.slice A2 n2 c2,.slice (some ad3) n3 c3]:=D 0 rfl _ _ rfl rfl
      have d1:a.eval (.tmp 48)=.slice AL L.length cl:=D 1 rfl _ _ rfl rfl
      have d0:a.eval (.tmp 47)=.agg #[.slice A1 n1 c1,.slice A2 n2 c2,.slice (some ad3) n3 c3]:=D 0 rfl _ _ rfl rfl
      have d1:a.eval (.tmp 48)=.slice AL L.length cl:=D 1 rfl _ _ rfl rfl
      refine Rgs.call rfl (Reg.wanted_free rfl) 11 #[.agg #[.slice A1 n1 c1,.slice A2 n2 c2,.slice (some ad3) n3 c3],.slice AL L.length cl] (by have c:=Reg.consts a;generalize a.eval=ρ at *;simp[execOp,go_sem,c.1,c.2,d0,d1]) ?_
      refine(HS1.out w1 hW).mono ?_
      rintro e wy ⟨rfl,hb5⟩
      exact⟨_,rfl,rfl,hW.bel hb5,fun j v _ hv=>keepV hb5 j v hv⟩
     ·have d2:a.eval (.tmp 49)=.bool true:=D 2 rfl _ _ rfl rfl
      exact Rgs.val rfl (Reg.wanted_free rfl) (.bool true) (by have c:=Reg.consts a;generalize a.eval=ρ at *;simp[execOp,go_sem,c.1,c.2,d2]) rfl hW
     ·have dg:a.eval (.tmp 50)=.bool true:=D 3 rfl _ _ rfl rfl
      have e10:a.eval (.tmp 10)=.pointer (some ⟨gd,0,none⟩):=E 10 rfl
      have hc0:=(HCE.out _ hW).d0
      have hc1:=(HCE.out _ hW).d1
      have hc2:=(HCE.out _ hW).d2
      exact Rgs.val rfl (Reg.wanted_if rfl rfl dg rfl) (.agg #[.slice A1 n1 c1,.slice A5 n2 c5,.slice (some ad3) n3 c3]) (by have c:=Reg.consts a;generalize a.eval=ρ at *;simp[execOp,go_sem,c.1,c.2,e10,hc0,hc1,hc2]) rfl hW
     ·have dg:a.eval (.tmp 50)=.bool true:=D 3 rfl _ _ rfl rfl
      have e9:a.eval (.tmp 9)=.slice AL L.length cl:=E 9 rfl
      exact Rgs.val rfl (Reg.wanted_if rfl rfl dg rfl) (.slice AL L.length cl) (by have c:=Reg.consts a;generalize a.eval=ρ at *;simp[execOp,go_sem,c.1,c.2,e9]) rfl hW
     ·have dg:a.eval (.tmp 50)=.bool true:=D 3 rfl _ _ rfl rfl
      have d4:a.eval (.tmp 51)=.agg #[.slice A1 n1 c1,.slice A5 n2 c5,.slice (some ad3) n3 c3]:=D 4 rfl _ _ rfl rfl
      have d5:a.eval (.tmp 52)=.slice AL L.length cl:=D 5 rfl _ _ rfl rfl
      have dg:a.eval (.tmp 50)=.bool true:=D 3 rfl _ _ rfl rfl
      have d4:a.eval (.tmp 51)=.agg #[.slice A1 n1 c1,.slice A5 n2 c5,.slice (some ad3) n3 c3]:=D 4 rfl _ _ rfl rfl
      have d5:a.eval (.tmp 52)=.slice AL L.length cl:=D 5 rfl _ _ rfl rfl
      refine Rgs.call rfl (Reg.wanted_if rfl rfl dg rfl) 11 #[.agg #[.slice A1 n1 c1,.slice A5 n2 c5,.slice (some ad3) n3 c3],.slice AL L.length cl] (by have c:=Reg.consts a;generalize a.eval=ρ at *;simp[execOp,go_sem,c.1,c.2,d4,d5]) ?_
      refine(HS2.out w1 hW).mono ?_
      rintro e wy ⟨rfl,hb5⟩
      exact⟨_,rfl,rfl,hW.bel hb5,fun j v _ hv=>keepV hb5 j v hv⟩
     ·have d3:a.eval (.tmp 50)=.bool true:=D 3 rfl _ _ rfl rfl
      have d6:a.eval (.tmp 53)=.bool true:=D 6 rfl _ _ rfl rfl
      exact Rgs.val rfl (Reg.wanted_free rfl) (.bool true) (by have c:=Reg.consts a;generalize a.eval=ρ at *;simp[execOp,go_sem,c.1,c.2,d3,d6]) rfl hW
     ·have d7:a.eval (.tmp 54)=.bool true:=D 7 rfl _ _ rfl rfl
      exact Rgs.val rfl (Reg.wanted_free rfl) (.bool true) (by have c:=Reg.consts a;generalize a.eval=ρ at *;simp[execOp,go_sem,c.1,c.2,d7]) rfl hW
     ·have dg:a.eval (.tmp 55)=.bool true:=D 8 rfl _ _ rfl rfl
      have e10:a.eval (.tmp 10)=.pointer (some ⟨gd,0,none⟩):=E 10 rfl
      have hc0:=(HCE.out _ hW).d0
      have hc1:=(HCE.out _ hW).d1
      have hc2:=(HCE.out _ hW).d2
      exact Rgs.val rfl (Reg.wanted_if rfl rfl dg rfl) (.agg #[.slice A1 n1 c1,.slice A5 n2 c5,.slice (some ad3) n3 c3]) (by have c:=Reg.consts a;generalize a.eval=ρ at *;simp[execOp,go_sem,c.1,c.2,e10,hc0,hc1,hc2]) rfl hW
     ·have dg:a.eval (.tmp 55)=.bool true:=D 8 rfl _ _ rfl rfl
      have e9:a.eval (.tmp 9)=.slice AL L.length cl:=E 9 rfl
      exact Rgs.val rfl (Reg.wanted_if rfl rfl dg rfl) (.slice AL L.length cl) (by have c:=Reg.consts a;generalize a.eval=ρ at *;simp[execOp,go_sem,c.1,c.2,e9]) rfl hW
     ·have dg:a.eval (.tmp 55)=.bool true:=D 8 rfl _ _ rfl rfl
      have d9:a.eval (.tmp 56)=.agg #[.slice A1 n1 c1,.slice A5 n2 c5,.slice (some ad3) n3 c3]:=D 9 rfl _ _ rfl rfl
      have d10:a.eval (.tmp 57)=.slice AL L.length cl:=D 10 rfl _ _ rfl rfl
      have dg:a.eval (.tmp 55)=.bool true:=D 8 rfl _ _ rfl rfl
      have d9:a.eval (.tmp 56)=.agg #[.slice A1 n1 c1,.slice A5 n2 c5,.slice (some ad3) n3 c3]:=D 9 rfl _ _ rfl rfl
      have d10:a.eval (.tmp 57)=.slice AL L.length cl:=D 10 rfl _ _ rfl rfl
      refine Rgs.call rfl (Reg.wanted_if rfl rfl dg rfl) 12 #[.agg #[.slice A1 n1 c1,.slice A5 n2 c5,.slice (some ad3) n3 c3],.slice AL L.length cl] (by have c:=Reg.consts a;generalize a.eval=ρ at *;simp[execOp,go_sem,c.1,c.2,d9,d10]) ?_
      refine(HPA.out w1 hW).mono ?_
      rintro e wy ⟨rfl,hb5⟩
      exact⟨_,rfl,rfl,hW.bel hb5,fun j v _ hv=>keepV hb5 j v hv⟩
     ·have d8:a.eval (.tmp 55)=.bool true:=D 8 rfl _ _ rfl rfl
      have d11:a.eval (.tmp 58)=.bool true:=D 11 rfl _ _ rfl rfl
      exact Rgs.val rfl (Reg.wanted_free rfl) (.bool true) (by have c:=Reg.consts a;generalize a.eval=ρ at *;simp[execOp,go_sem,c.1,c.2,d8,d11]) rfl hW
     ·have d12:a.eval (.tmp 59)=.bool true:=D 12 rfl _ _ rfl rfl
      exact Rgs.val rfl (Reg.wanted_free rfl) (.bool true) (by have c:=Reg.consts a;generalize a.eval=ρ at *;simp[execOp,go_sem,c.1,c.2,d12]) rfl hW
     ·have dg:a.eval (.tmp 60)=.bool true:=D 13 rfl _ _ rfl rfl
      have e8:a.eval (.tmp 8)=.pointer (some ⟨gc,0,none⟩):=E 8 rfl
      have hc0:=(HCE.out _ hW).c0
      have hc1:=(HCE.out _ hW).c1
      have hc2:=(HCE.out _ hW).c2
      exact Rgs.val rfl (Reg.wanted_if rfl rfl dg rfl) (.agg #[.slice A1 n1 c1,.slice A2 n2 c2,.slice (some ad3) n3 c3]) (by have c:=Reg.consts a;generalize a.eval=ρ at *;simp[execOp,go_sem,c.1,c.2,e8,hc0,hc1,hc2]) rfl hW
     ·have dg:a.eval (.tmp 60)=.bool true:=D 13 rfl _ _ rfl rfl
      have e8:a.eval (.tmp 8)=.pointer (some ⟨gc,0,none⟩):=E 8 rfl
      exact Rgs.val rfl (Reg.wanted_if rfl rfl dg rfl) (.pointer (some ⟨gc,2,none⟩)) (by have c:=Reg.consts a;generalize a.eval=ρ at *;simp[execOp,go_sem,c.1,c.2,e8]) rfl hW
     ·have dg:a.eval (.tmp 60)=.bool true:=D 13 rfl _ _ rfl rfl
      have d15:a.eval (.tmp 62)=.pointer (some ⟨gc,2,none⟩):=D 15 rfl _ _ rfl rfl
      have hc0:=(HCE.out _ hW).c2
      exact Rgs.val rfl (Reg.wanted_if rfl rfl dg rfl) (.slice (some ad3) n3 c3) (by have c:=Reg.consts a;generalize a.eval=ρ at *;simp[execOp,go_sem,c.1,c.2,d15,hc0]) rfl hW
     ·have dg:a.eval (.tmp 60)=.bool true:=D 13 rfl _ _ rfl rfl
      have d16:a.eval (.tmp 63)=.slice (some ad3) n3 c3:=D 16 rfl _ _ rfl rfl
      have i1:=hJ0.out.1
      have i2:=hJ0.out.2
      exact Rgs.val rfl (Reg.wanted_if rfl rfl dg rfl) (.pointer (some ad3)) (by have c:=Reg.consts a;generalize a.eval=ρ at *;simp[execOp,go_sem,c.1,c.2,d16,i1,i2]) rfl hW
     ·have dg:a.eval (.tmp 60)=.bool true:=D 13 rfl _ _ rfl rfl
      have d17:a.eval (.tmp 64)=.pointer (some ad3):=D 17 rfl _ _ rfl rfl
      have hc0:=(HCE.out _ hW).t0
      exact Rgs.val rfl (Reg.wanted_if rfl rfl dg rfl) (.slice tA tn tc) (by have c:=Reg.consts a;generalize a.eval=ρ at *;simp[execOp,go_sem,c.1,c.2,d17,hc0]) rfl hW
     ·have dg:a.eval (.tmp 60)=.bool true:=D 13 rfl _ _ rfl rfl
      have d14:a.eval (.tmp 61)=.agg #[.slice A1 n1 c1,.slice A2 n2 c2,.slice (some ad3) n3 c3]:=D 14 rfl _ _ rfl rfl
      have d18:a.eval (.tmp 65)=.slice tA tn tc:=D 18 rfl _ _ rfl rfl
      have dg:a.eval (.tmp 60)=.bool true:=D 13 rfl _ _ rfl rfl
      have d14:a.eval (.tmp 61)=.agg #[.slice A1 n1 c1,.slice A2 n2 c2,.slice (some ad3) n3 c3]:=D 14 rfl _ _ rfl rfl
      have d18:a.eval (.tmp 65)=.slice tA tn tc:=D 18 rfl _ _ rfl rfl
      refine Rgs.call rfl (Reg.wanted_if rfl rfl dg rfl) 13 #[.agg #[.slice A1 n1 c1,.slice A2 n2 c2,.slice (some ad3) n3 c3],.slice tA tn tc] (by have c:=Reg.consts a;generalize a.eval=ρ at *;simp[execOp,go_sem,c.1,c.2,d14,d18]) ?_
      refine(HT1.out w1 hW).mono ?_
      rintro e wy ⟨rfl,hb5⟩
      exact⟨_,rfl,rfl,hW.bel hb5,fun j v _ hv=>keepV hb5 j v hv⟩
     ·have d13:a.eval (.tmp 60)=.bool true:=D 13 rfl _ _ rfl rfl
      have d19:a.eval (.tmp 66)=.bool true:=D 19 rfl _ _ rfl rfl
      exact Rgs.val rfl (Reg.wanted_free rfl) (.bool true) (by have c:=Reg.consts a;generalize a.eval=ρ at *;simp[execOp,go_sem,c.1,c.2,d13,d19]) rfl hW
     ·have d20:a.eval (.tmp 67)=.bool true:=D 20 rfl _ _ rfl rfl
      exact Rgs.val rfl (Reg.wanted_free rfl) (.bool true) (by have c:=Reg.consts a;generalize a.eval=ρ at *;simp[execOp,go_sem,c.1,c.2,d20]) rfl hW
     ·have dg:a.eval (.tmp 68)=.bool true:=D 21 rfl _ _ rfl rfl
      have e10:a.eval (.tmp 10)=.pointer (some ⟨gd,0,none⟩):=E 10 rfl
      have hc0:=(HCE.out _ hW).d0
      have hc1:=(HCE.out _ hW).d1
      have hc2:=(HCE.out _ hW).d2
      exact Rgs.val rfl (Reg.wanted_if rfl rfl dg rfl) (.agg #[.slice A1 n1 c1,.slice A5 n2 c5,.slice (some ad3) n3 c3]) (by have c:=Reg.consts a;generalize a.eval=ρ at *;simp[execOp,go_sem,c.1,c.2,e10,hc0,hc1,hc2]) rfl hW
     ·have dg:a.eval (.tmp 68)=.bool true:=D 21 rfl _ _ rfl rfl
      have e8:a.eval (.tmp 8)=.pointer (some ⟨gc,0,none⟩):=E 8 rfl
      exact Rgs.val rfl (Reg.wanted_if rfl rfl dg rfl) (.pointer (some ⟨gc,2,none⟩)) (by have c:=Reg.consts a;generalize a.eval=ρ at *;simp[execOp,go_sem,c.1,c.2,e8]) rfl hW
     ·have dg:a.eval (.tmp 68)=.bool true:=D 21 rfl _ _ rfl rfl
      have d23:a.eval (.tmp 70)=.pointer (some ⟨gc,2,none⟩):=D 23 rfl _ _ rfl rfl
      have hc0:=(HCE.out _ hW).c2
      exact Rgs.val rfl (Reg.wanted_if rfl rfl dg rfl) (.slice (some ad3) n3 c3) (by have c:=Reg.consts a;generalize a.eval=ρ at *;simp[execOp,go_sem,c.1,c.2,d23,hc0]) rfl hW
     ·have dg:a.eval (.tmp 68)=.bool true:=D 21 rfl _ _ rfl rfl
      have d24:a.eval (.tmp 71)=.slice (some ad3) n3 c3:=D 24 rfl _ _ rfl rfl
      have i1:=hJ0.out.1
      have i2:=hJ0.out.2
      exact Rgs.val rfl (Reg.wanted_if rfl rfl dg rfl) (.pointer (some ad3)) (by have c:=Reg.consts a;generalize a.eval=ρ at *;simp[execOp,go_sem,c.1,c.2,d24,i1,i2]) rfl hW
     ·have dg:a.eval (.tmp 68)=.bool true:=D 21 rfl _ _ rfl rfl
      have d25:a.eval (.tmp 72)=.pointer (some ad3):=D 25 rfl _ _ rfl rfl
      have hc0:=(HCE.out _ hW).t0
      exact Rgs.val rfl (Reg.wanted_if rfl rfl dg rfl) (.slice tA tn tc) (by have c:=Reg.consts a;generalize a.eval=ρ at *;simp[execOp,go_sem,c.1,c.2,d25,hc0]) rfl hW
     ·have dg:a.eval (.tmp 68)=.bool true:=D 21 rfl _ _ rfl rfl
      have d22:a.eval (.tmp 69)=.agg #[.slice A1 n1 c1,.slice A5 n2 c5,.slice (some ad3) n3 c3]:=D 22 rfl _ _ rfl rfl
      have d26:a.eval (.tmp 73)=.slice tA tn tc:=D 26 rfl _ _ rfl rfl
      have dg:a.eval (.tmp 68)=.bool true:=D 21 rfl _ _ rfl rfl
      have d22:a.eval (.tmp 69)=.agg #[.slice A1 n1 c1,.slice A5 n2 c5,.slice (some ad3) n3 c3]:=D 22 rfl _ _ rfl rfl
      have d26:a.eval (.tmp 73)=.slice tA tn tc:=D 26 rfl _ _ rfl rfl
      refine Rgs.call rfl (Reg.wanted_if rfl rfl dg rfl) 13 #[.agg #[.slice A1 n1 c1,.slice A5 n2 c5,.slice (some ad3) n3 c3],.slice tA tn tc] (by have c:=Reg.consts a;generalize a.eval=ρ at *;simp[execOp,go_sem,c.1,c.2,d22,d26]) ?_
      refine(HT2.out w1 hW).mono ?_
      rintro e wy ⟨rfl,hb5⟩
      exact⟨_,rfl,rfl,hW.bel hb5,fun j v _ hv=>keepV hb5 j v hv⟩
     ·have d21:a.eval (.tmp 68)=.bool true:=D 21 rfl _ _ rfl rfl
      have d27:a.eval (.tmp 74)=.bool true:=D 27 rfl _ _ rfl rfl
      exact Rgs.val rfl (Reg.wanted_free rfl) (.bool true) (by have c:=Reg.consts a;generalize a.eval=ρ at *;simp[execOp,go_sem,c.1,c.2,d21,d27]) rfl hW
     ·have d28:a.eval (.tmp 75)=.bool true:=D 28 rfl _ _ rfl rfl
      exact Rgs.val rfl (Reg.wanted_free rfl) (.bool true) (by have c:=Reg.consts a;generalize a.eval=ρ at *;simp[execOp,go_sem,c.1,c.2,d28]) rfl hW
     ·have dg:a.eval (.tmp 76)=.bool true:=D 29 rfl _ _ rfl rfl
      have e8:a.eval (.tmp 8)=.pointer (some ⟨gc,0,none⟩):=E 8 rfl
      have hc0:=(HCE.out _ hW).c0
      have hc1:=(HCE.out _ hW).c1
      have hc2:=(HCE.out _ hW).c2
      exact Rgs.val rfl (Reg.wanted_if rfl rfl dg rfl) (.agg #[.slice A1 n1 c1,.slice A2 n2 c2,.slice (some ad3) n3 c3]) (by have c:=Reg.consts a;generalize a.eval=ρ at *;simp[execOp,go_sem,c.1,c.2,e8,hc0,hc1,hc2]) rfl hW
     ·have dg:a.eval (.tmp 76)=.bool true:=D 29 rfl _ _ rfl rfl
      have e7:a.eval (.tmp 7)=.pointer (some ⟨b,0,none⟩):=E 7 rfl
      exact Rgs.val rfl (Reg.wanted_if rfl rfl dg rfl) (.pointer (some ⟨b,0,none⟩)) (by have c:=Reg.consts a;generalize a.eval=ρ at *;simp[execOp,go_sem,c.1,c.2,e7]) rfl hW
     ·have dg:a.eval (.tmp 76)=.bool true:=D 29 rfl _ _ rfl rfl
      have e8:a.eval (.tmp 8)=.pointer (some ⟨gc,0,none⟩):=E 8 rfl
      exact Rgs.val rfl (Reg.wanted_if rfl rfl dg rfl) (.pointer (some ⟨gc,0,none⟩)) (by have c:=Reg.consts a;generalize a.eval=ρ at *;simp[execOp,go_sem,c.1,c.2,e8]) rfl hW
     ·have dg:a.eval (.tmp 76)=.bool true:=D 29 rfl _ _ rfl rfl
      have d32:a.eval (.tmp 79)=.pointer (some ⟨gc,0,none⟩):=D 32 rfl _ _ rfl rfl
      have hc0:=(HCE.out _ hW).c0
      have hc1:=(HCE.out _ hW).c1
      have hc2:=(HCE.out _ hW).c2
      exact Rgs.val rfl (Reg.wanted_if rfl rfl dg rfl) (.slice A1 n1 c1) (by have c:=Reg.consts a;generalize a.eval=ρ at *;simp[execOp,go_sem,c.1,c.2,d32,hc0,hc1,hc2]) rfl hW
     ·have dg:a.eval (.tmp 76)=.bool true:=D 29 rfl _ _ rfl rfl
      have d33:a.eval (.tmp 80)=.slice A1 n1 c1:=D 33 rfl _ _ rfl rfl
      exact Rgs.val rfl (Reg.wanted_if rfl rfl dg rfl) (.int .i64 (n1:Int)) (by have c:=Reg.consts a;generalize a.eval=ρ at *;simp[execOp,go_sem,c.1,c.2,d33]) rfl hW
     ·have dg:a.eval (.tmp 76)=.bool true:=D 29 rfl _ _ rfl rfl
      have d31:a.eval (.tmp 78)=.pointer (some ⟨b,0,none⟩):=D 31 rfl _ _ rfl rfl
      have d34:a.eval (.tmp 81)=.int .i64 (n1:Int):=D 34 rfl _ _ rfl rfl
      have dg:a.eval (.tmp 76)=.bool true:=D 29 rfl _ _ rfl rfl
      have d31:a.eval (.tmp 78)=.pointer (some ⟨b,0,none⟩):=D 31 rfl _ _ rfl rfl
      have d34:a.eval (.tmp 81)=.int .i64 (n1:Int):=D 34 rfl _ _ rfl rfl
      refine Rgs.call rfl (Reg.wanted_if rfl rfl dg rfl) 14 #[.pointer (some ⟨b,0,none⟩),.int .i64 (n1:Int),.int .i64 3] (by have c:=Reg.consts a;generalize a.eval=ρ at *;simp[execOp,go_sem,c.1,c.2,d31,d34]) ?_
      refine(tblt_any (by omega) n1 (by omega) (by omega) w1 hW).mono ?_
      rintro e wy ⟨A',n',c',l',rfl,hr',hc',hn',hT'⟩
      refine⟨_,rfl,⟨A',n',c',l',rfl,hr',hc',hn'⟩,hT',fun j v hl hv=>?_⟩
      by_cases hj:j=35
      ·subst hj
       rw[h0] at hl
       cases hl
      ·exact moveV hj v hv
     ·have dg:a.eval (.tmp 76)=.bool true:=D 29 rfl _ _ rfl rfl
      have d30:a.eval (.tmp 77)=.agg #[.slice A1 n1 c1,.slice A2 n2 c2,.slice (some ad3) n3 c3]:=D 30 rfl _ _ rfl rfl
      have dg:a.eval (.tmp 76)=.bool true:=D 29 rfl _ _ rfl rfl
      have d30:a.eval (.tmp 77)=.agg #[.slice A1 n1 c1,.slice A2 n2 c2,.slice (some ad3) n3 c3]:=D 30 rfl _ _ rfl rfl
      obtain⟨A',n',c',l',e35,hr',hc',hn'⟩:TblV (a.eval (.tmp 82)) w1:=D 35 rfl _ _ rfl rfl
      refine Rgs.call rfl (Reg.wanted_if rfl rfl dg rfl) 13 #[.agg #[.slice A1 n1 c1,.slice A2 n2 c2,.slice (some ad3) n3 c3],.slice A' n' c'] (by have c:=Reg.consts a;generalize a.eval=ρ at *;simp[execOp,go_sem,c.1,c.2,d30,e35]) ?_
      refine(HTB.out A' n' c' l' w1 hW hr' hc' hn').mono ?_
      rintro e wy ⟨rfl,hb5⟩
      exact⟨_,rfl,rfl,hW.bel hb5,fun j v _ hv=>keepV hb5 j v hv⟩
     ·have d29:a.eval (.tmp 76)=.bool true:=D 29 rfl _ _ rfl rfl
      have d36:a.eval (.tmp 83)=.bool true:=D 36 rfl _ _ rfl rfl
      exact Rgs.val rfl (Reg.wanted_free rfl) (.bool true) (by have c:=Reg.consts a;generalize a.eval=ρ at *;simp[execOp,go_sem,c.1,c.2,d29,d36]) rfl hW
     ·have d37:a.eval (.tmp 84)=.bool true:=D 37 rfl _ _ rfl rfl
      exact Rgs.val rfl (Reg.wanted_free rfl) (.bool true) (by have c:=Reg.consts a;generalize a.eval=ρ at *;simp[execOp,go_sem,c.1,c.2,d37]) rfl hW
     ·have dg:a.eval (.tmp 85)=.bool true:=D 38 rfl _ _ rfl rfl
      have e8:a.eval (.tmp 8)=.pointer (some ⟨gc,0,none⟩):=E 8 rfl
      have hc0:=(HCE.out _ hW).c0
      have hc1:=(HCE.out _ hW).c1
      have hc2:=(HCE.out _ hW).c2
      exact Rgs.val rfl (Reg.wanted_if rfl rfl dg rfl) (.agg #[.slice A1 n1 c1,.slice A2 n2 c2,.slice (some ad3) n3 c3]) (by have c:=Reg.consts a;generalize a.eval=ρ at *;simp[execOp,go_sem,c.1,c.2,e8,hc0,hc1,hc2]) rfl hW
     ·have dg:a.eval (.tmp 85)=.bool true:=D 38 rfl _ _ rfl rfl
      have e2:a.eval (.tmp 2)=.slice AR nr0 kr:=E 2 rfl
      exact Rgs.val rfl (Reg.wanted_if rfl rfl dg rfl) (.slice AR nr0 kr) (by have c:=Reg.consts a;generalize a.eval=ρ at *;simp[execOp,go_sem,c.1,c.2,e2]) rfl hW
     ·have dg:a.eval (.tmp 85)=.bool true:=D 38 rfl _ _ rfl rfl
      have d39:a.eval (.tmp 86)=.agg #[.slice A1 n1 c1,.slice A2 n2 c2,.slice (some ad3) n3 c3]:=D 39 rfl _ _ rfl rfl
      have d40:a.eval (.tmp 87)=.slice AR nr0 kr:=D 40 rfl _ _ rfl rfl
      have dg:a.eval (.tmp 85)=.bool true:=D 38 rfl _ _ rfl rfl
      have d39:a.eval (.tmp 86)=.agg #[.slice A1 n1 c1,.slice A2 n2 c2,.slice (some ad3) n3 c3]:=D 39 rfl _ _ rfl rfl
      have d40:a.eval (.tmp 87)=.slice AR nr0 kr:=D 40 rfl _ _ rfl rfl
      refine Rgs.call rfl (Reg.wanted_if rfl rfl dg rfl) 13 #[.agg #[.slice A1 n1 c1,.slice A2 n2 c2,.slice (some ad3) n3 c3],.slice AR nr0 kr] (by have c:=Reg.consts a;generalize a.eval=ρ at *;simp[execOp,go_sem,c.1,c.2,d39,d40]) ?_
      refine(HT3.out w1 hW).mono ?_
      rintro e wy ⟨rfl,hb5⟩
      exact⟨_,rfl,rfl,hW.bel hb5,fun j v _ hv=>keepV hb5 j v hv⟩
     ·have d38:a.eval (.tmp 85)=.bool true:=D 38 rfl _ _ rfl rfl
      have d41:a.eval (.tmp 88)=.bool true:=D 41 rfl _ _ rfl rfl
      exact Rgs.val rfl (Reg.wanted_free rfl) (.bool true) (by have c:=Reg.consts a;generalize a.eval=ρ at *;simp[execOp,go_sem,c.1,c.2,d38,d41]) rfl hW
     ·have d42:a.eval (.tmp 89)=.bool true:=D 42 rfl _ _ rfl rfl
      exact Rgs.val rfl (Reg.wanted_free rfl) (.bool true) (by have c:=Reg.consts a;generalize a.eval=ρ at *;simp[execOp,go_sem,c.1,c.2,d42]) rfl hW
     ·have dg:a.eval (.tmp 90)=.bool true:=D 43 rfl _ _ rfl rfl
      have dg:a.eval (.tmp 90)=.bool true:=D 43 rfl _ _ rfl rfl
      refine Rgs.call rfl (Reg.wanted_if rfl rfl dg rfl) 15 #[] (by have c:=Reg.consts a;generalize a.eval=ρ at *;simp[execOp,go_sem,c.1,c.2,go_sem]) ?_
      refine(H.known w1).mono ?_
      rintro e wy ⟨rfl,hb5⟩
      exact⟨_,rfl,rfl,hW.bel hb5,fun j v _ hv=>keepV hb5 j v hv⟩
     ·have d43:a.eval (.tmp 90)=.bool true:=D 43 rfl _ _ rfl rfl
      have d44:a.eval (.tmp 91)=.bool true:=D 44 rfl _ _ rfl rfl
      exact Rgs.val rfl (Reg.wanted_free rfl) (.bool true) (by have c:=Reg.consts a;generalize a.eval=ρ at *;simp[execOp,go_sem,c.1,c.2,d43,d44]) rfl hW
     ·have d45:a.eval (.tmp 92)=.bool true:=D 45 rfl _ _ rfl rfl
      exact Rgs.val rfl (Reg.wanted_free rfl) (.bool true) (by have c:=Reg.consts a;generalize a.eval=ρ at *;simp[execOp,go_sem,c.1,c.2,d45]) rfl hW
    ·intro a w9 live hs hd E Dv Hl hW
     have e6:a.eval (.tmp 6)=.bool true:=by
      obtain⟨v,hv,he⟩:=Dv 46 _ rfl
      exact(he 6 rfl).trans hv
     rw[Rgs.act_ws a _ _ hs hd E [47,48,49,50,51,52,53,54,55,56,57,58,59,60,61,62,63,64,65,66,67,68,69,70,71,72,73,74,75,76,77,78,79,80,81,82,83,84,85,86,87,88,89,90,91,92,6] (by kernel_rfl)]
     simp only[List.foldl,List.setIfInBounds_toArray,List.set_cons_succ,List.set_cons_zero,e6]
     have HFF:=hid (HB5.out.trans (hW.base HLW.out HB5.out.size))
     clear E Dv Hl hW e6
     generalize a.eval=ρ
     clear a hs hd
     go_wp2_with fail
     go_ret
     exact Ans.mk rfl HFF.out
end Go.Proofs.YtfddpnhaejkacaaGreat.reduceTells
