import Derived.Test.YtfddpnhaejkacaaGreatSd
import Derived.Test.YtfddpnhaejkacaaGreatRu
set_option linter.unusedSimpArgs false
set_option linter.unusedVariables false
namespace Go.Proofs.YtfddpnhaejkacaaGreat
open Go.RowKit Tab
open Lib (hid)
def fnM:Value:=.func (.func 63) #[] #[]
def fnD:Value:=.func (.func 54) #[] #[]
def paM:Value:=.func (.func 68) #[.func (.func 63) #[] #[]] #[]
def paD:Value:=.func (.func 68) #[.func (.func 54) #[] #[]] #[]
def wyZ (i:Nat):Value:=if i=0 then fnM else fnD
def paZ (i:Nat):Value:=.func (.func 68) #[wyZ i] #[]
theorem elPass:Elt 79 81 1 8 .nilFunc:=⟨Tryz.underlying79,by kernel_rfl,rfl,by omega⟩
def PasR (w:World) (e:Ending) (w':World):Prop:=∃ g c,e=.returned (.slice (some ⟨g,0,none⟩) 2 c)∧2≤c∧w.heap.size≤g∧g < w'.heap.size∧w'.cell? ⟨g,0,none⟩=some paM∧w'.cell? ⟨g,1,none⟩=some paD∧Below w.heap.size w w'
theorem reways_any (w:World):Calls Tryz.prog 67 #[] w (fun e w'=>e=.returned (.slice (some ⟨w.heap.size,0,none⟩) 2 2)∧w'=w.alloc (.cells #[.func (.func 63) #[] #[],.func (.func 54) #[] #[]] 113)):=by
 go_enter Tryz.func67,Tryz.ntmps67
 go_wp2_with fail
 go_ret
 exact⟨rfl,rfl⟩
set_option maxRecDepth 100000 in
set_option maxHeartbeats 2000000 in
theorem passes_any (w:World):Calls Tryz.prog 39 #[] w (PasR w):=by
 have hv:Vec (w.alloc (.cells #[.func (.func 63) #[] #[],.func (.func 54) #[] #[]] 113)) w.heap.size 2 wyZ:=Vec.lit w _ _ 2 _ fun j hj=>by
  rcases(by omega:j=0∨j=1) with rfl | rfl <;> rfl
 have hb0:=bl1 w (.cells #[.func (.func 63) #[] #[],.func (.func 54) #[] #[]] 113)
 have HV:=hid hv
 have HB0:=hid hb0
 clear hv hb0
 go_enter Tryz.func39,Tryz.ntmps39
 go_wp2_with fail
 refine(reways_any w).mono ?_
 rintro e w1 ⟨rfl,hw1⟩
 rw[← hw1] at HV HB0
 obtain⟨gw,hgw⟩:∃ gw,gw=w.heap.size:=⟨_,rfl⟩
 rw[← hgw] at HV ⊢
 have HGW:=hid hgw
 clear hw1 hgw
 go_wp2_with fail
 go_loopw [1,3,6] (fun q _ s wr=>∃(i c':Nat) (A':Option Addr),i≤2∧s=.int .i64 i∧q=.slice A' i c'∧OwnV 81 1 wr w1.heap.size A' i c' ((List.range i).map paZ)∧Below w1.heap.size w1 wr) (fun _ _ s _=>2 - (intOf s).toNat)
 case atStart=>exact⟨0,0,none,by omega,rfl,rfl,OwnV.nil _ _ _ _,Below.refl _ _⟩
 case round =>
  obtain⟨i,c',A',hi,rfl,rfl,how,hb⟩:=hrel
  have HOW:=hid how
  have HB:=hid hb
  clear how hb
  by_cases hlt:i < 2
  ·have hlti:(i:Int) < 2:=by omega
   have hce:wr.cell? ⟨gw,i,none⟩=some (wyZ i):=(HV.out.on HB.out).cell i hlt
   have hbl:=bl1 wr (.cells #[.func (.func 68) #[wyZ i] #[]] 81)
   have how1:=HOW.out.below rfl hbl
   have hrd:=rdV_new wr #[.func (.func 68) #[wyZ i] #[]] 81 [paZ i] rfl
   have hsz:=(HB.out.trans (hbl.mono HB.out.size)).size
   have HNX:Hid ((List.range i).map paZ++[paZ i]=(List.range (i+1)).map paZ):=hid (by rw[List.range_succ,List.map_append];rfl)
   have HB1:=hid (HB.out.trans (hbl.mono HB.out.size))
   clear hbl
   generalize wyZ i=vv at hce hrd how1 HB1 hsz ⊢
   go_wp2_with (at_builtin;go_loud (refine wpList_appV elPass rfl (.tmp 10) (.tmp 13) rfl rfl w1.heap.size A' i c' _ rfl how1 _ 1 1 _ _ rfl hrd rfl (by intro u hu;simp at hu;subst hu;rfl) (by omega) (by unfold maxLen;omega) hsz (i+1) rfl _ HNX.out ?_;intro A2 c2 w2 hw2 hb2 _))
   go_roundw
   case rel=>exact⟨i+1,c2,A2,by omega,by go_num,rfl,hw2,HB1.out.trans hb2⟩
   case measure=>simp[intOf];omega
  ·have hlti:¬ (i:Int) < 2:=by omega
   have hi2:i=2:=by omega
   have HI2:=hid hi2
   clear hi2
   go_wp2_with fail
   go_ret
   have ho:=HOW.out
   obtain⟨g,rfl,hg1,hg2⟩:=ho.block (by omega)
   rw[HI2.out] at ho ⊢
   have hbb:=HB0.out.trans (HB.out.mono HB0.out.size)
   have hc0:=ho.rd (by simp)
   obtain⟨ad,e,_,hc⟩:=hc0
   injection e with e
   subst e
   exact⟨g,c',rfl,ho.cap,Nat.le_trans HB0.out.size hg1,hg2,hc 0 _ rfl,hc 1 _ rfl,hbb⟩
set_option maxRecDepth 100000 in
set_option maxHeartbeats 2000000 in
theorem wmerge_any (A1 A2 A3 A:Option Addr) (n1 n2 n3 n c1 c2 c3 c:Nat) (L:List Rn) (w:World) (h:RdR w w.heap.size A n L) (hc:n≤c) (hn:n≤1048576) (ht:ticks L≤1099511627776) :
  Calls Tryz.prog 68 #[.func (.func 63) #[] #[],.agg #[.slice A1 n1 c1,.slice A2 n2 c2,.slice A3 n3 c3],.slice A n c] w (RowTb (tidy L) (mergeB L) w):=by
 have hb0:=bl1 w (.cells #[.slice A1 n1 c1,.slice A2 n2 c2,.slice A3 n3 c3] 31)
 have hbox:=box_vec w (.slice A1 n1 c1) (.slice A2 n2 c2) (.slice A3 n3 c3) 31
 have HC:=hid (mmerge_any A1 A2 A3 A n1 n2 n3 n c1 c2 c3 c L _ (h.on hb0) hc hn ht)
 have HB0:=hid hb0
 generalize mergeB L=b at HC ⊢
 generalize tidy L=X at HC ⊢
 clear h hb0
 go_enter Tryz.func68,Tryz.ntmps68
 go_upto_region 1 with fail
 generalize w.alloc (.cells #[.slice A1 n1 c1,.slice A2 n2 c2,.slice A3 n3 c3] 31)=W at hbox HC HB0 ⊢
 obtain⟨gc,hgc⟩:∃ gc,gc=w.heap.size:=⟨_,rfl⟩
 rw[← hgc] at hbox ⊢
 clear hgc
 obtain⟨m0,m1,m2⟩:=hbox.three
 clear hbox
 go_wp2_with fail
 refine HC.out.mono ?_
 rintro e w5 ⟨A5,c5,rfl,hr5,hc5,hb5⟩
 have HR5:=hid hr5
 have HB5:=hid hb5
 clear hr5 hb5 HC
 go_wp2_with fail
 go_ret2
 exact⟨A5,c5,rfl,HR5.out,hc5,HB0.out.trans (HB5.out.mono HB0.out.size)⟩
set_option maxRecDepth 100000 in
set_option maxHeartbeats 2000000 in
theorem wdraw_any (A1 A2 A3 A:Option Addr) (n1 n2 n3 n c1 c2 c3 c:Nat) (P:List PtV) (C:List ChV) (L:List Rn) (w:World) (hCf:CfW w w.heap.size A1 A2 n1 n2 P C) (h:RdR w w.heap.size A n L)
  (q1:n1≤1024) (q2:n2≤1048576) (hc:n≤c) (hn:n≤1024) (ht:ticks L≤8192) (hz:∀ x∈P,In64 x.per) :
  Calls Tryz.prog 68 #[.func (.func 54) #[] #[],.agg #[.slice A1 n1 c1,.slice A2 n2 c2,.slice A3 n3 c3],.slice A n c] w (RowTb (drwR P C L) (drwB P C L) w):=by
 have hb0:=bl1 w (.cells #[.slice A1 n1 c1,.slice A2 n2 c2,.slice A3 n3 c3] 31)
 have hbox:=box_vec w (.slice A1 n1 c1) (.slice A2 n2 c2) (.slice A3 n3 c3) 31
 have HC:=hid (mdraw_any A1 A2 A3 A n1 n2 n3 n c1 c2 c3 c P C L _ (hCf.on hb0) (h.on hb0) q1 q2 hc hn ht hz)
 have HB0:=hid hb0
 generalize drwB P C L=b at HC ⊢
 generalize drwR P C L=X at HC ⊢
 clear h hb0
 go_enter Tryz.func68,Tryz.ntmps68
 go_upto_region 1 with fail
 generalize w.alloc (.cells #[.slice A1 n1 c1,.slice A2 n2 c2,.slice A3 n3 c3] 31)=W at hbox HC HB0 ⊢
 obtain⟨gc,hgc⟩:∃ gc,gc=w.heap.size:=⟨_,rfl⟩
 rw[← hgc] at hbox ⊢
 clear hgc
 obtain⟨m0,m1,m2⟩:=hbox.three
 clear hbox
 go_wp2_with fail
 refine HC.out.mono ?_
 rintro e w5 ⟨A5,c5,rfl,hr5,hc5,hb5⟩
 have HR5:=hid hr5
 have HB5:=hid hb5
 clear hr5 hb5 HC
 go_wp2_with fail
 go_ret2
 exact⟨A5,c5,rfl,HR5.out,hc5,HB0.out.trans (HB5.out.mono HB0.out.size)⟩
def StpR (o:Option (List Rn)) (w:World) (e:Ending) (w':World):Prop:=Below w.heap.size w w'∧match o with
 | none=>e=.returned (.tuple #[.slice none 0 0,.bool false])
 | some X=>∃ A c,e=.returned (.tuple #[.slice A X.length c,.bool true])∧RdR w' w'.heap.size A X.length X∧X.length≤c
set_option maxRecDepth 100000 in
set_option maxHeartbeats 8000000 in
theorem step_any (A1 A2 A3 A:Option Addr) (n1 n2 n3 n c1 c2 c3 c:Nat) (P:List PtV) (C:List ChV) (L:List Rn) (w:World) (hI:RedIn w A1 A2 A n1 n2 n c1 c P C L) :
  Calls Tryz.prog 62 #[.agg #[.slice A1 n1 c1,.slice A2 n2 c2,.slice A3 n3 c3],.slice A n c] w (StpR (stepF P C L) w):=by
 have hb0:=bl1 w (.cells #[.slice A1 n1 c1,.slice A2 n2 c2,.slice A3 n3 c3] 31)
 have hbox:=box_vec w (.slice A1 n1 c1) (.slice A2 n2 c2) (.slice A3 n3 c3) 31
 have hf:=hI.frm
 have hln:=hI.row.len
 have HIN:=hid (hI.on hb0)
 have HB0:=hid hb0
 have HF:=hid hf
 have HLN:=hid hln
 have HFT:=hid (frm_tidy hf hln)
 have HFD:=hid (drwR_frm (P:=P) (C:=C) (L:=L) (by rw[hln];exact hf))
 obtain⟨RR,hRR⟩:∃ RR,RR=stepF P C L:=⟨_,rfl⟩
 rw[← hRR]
 have HS0:Hid (mergeB L=true→okF P C L=true→RR=some (tidy L)):=hid fun h1 h2=>by rw[hRR];unfold stepF;rw[if_pos ⟨h1,h2⟩]
 have HS1:Hid (¬ (mergeB L=true∧okF P C L=true)→RR=drawF P C L):=hid fun h=>by rw[hRR];unfold stepF;rw[if_neg h]
 have HVT:=hid (validF_tidy P C L)
 clear hI hb0 hf hRR hln
 go_enter Tryz.func62,Tryz.ntmps62
 go_upto_region 1 with fail
 generalize w.alloc (.cells #[.slice A1 n1 c1,.slice A2 n2 c2,.slice A3 n3 c3] 31)=W at hbox HIN HB0 ⊢
 obtain⟨gc,hgc⟩:∃ gc,gc=w.heap.size:=⟨_,rfl⟩
 rw[← hgc] at hbox ⊢
 clear hgc
 have HBX:=hid fun V (hv:Below W.heap.size W V)=>(hbox.on hv).three
 clear hbox
 go_wp2_with fail
 refine(passes_any W).mono ?_
 rintro e w1 ⟨gp,cp,rfl,hcp,hg1,hg2,hp0,hp1,hb1⟩
 have HK1:=hid hb1
 have HP0:=hid hp0
 have HP1:=hid hp1
 have HGP:=hid hg2
 clear hb1 hp0 hp1 hg1 hg2
 go_wp2_with fail
 go_loopw [7,8,9,12] (fun _ _ _ s wr=>∃ i:Nat,i≤2∧s=.int .i64 i∧(1≤i→¬ (mergeB L=true∧okF P C L=true))∧(i=2→RR=none)∧Below w1.heap.size w1 wr) (fun _ _ _ s _=>2 - (intOf s).toNat)
 case atStart=>exact⟨0,by omega,rfl,fun h=>by omega,fun h=>by omega,Below.refl _ _⟩
 case round =>
  obtain⟨i,hi,rfl,hno,hen,hb⟩:=hrel
  have HNO:=hid hno
  have HEN:=hid hen
  have HK:=hid hb
  have HW:=hid (HK1.out.trans (hb.mono HK1.out.size))
  clear hno hen hb
  obtain⟨wq,hwq⟩:∃ wq,wq=wr:=⟨_,rfl⟩
  subst hwq
  by_cases hlt:i < 2
  ·have hlti:(i:Int) < 2:=by omega
   obtain⟨m0,m1,m2⟩:=HBX.out wq HW.out
   have HI:=hid (HIN.out.on HW.out)
   by_cases hi0:i=0
   ·have hce:wq.cell? ⟨gp,i,none⟩=some (.func (.func 68) #[.func (.func 63) #[] #[]] #[]):=by rw[hi0];exact(HK.out.cell (p:=⟨gp,0,none⟩) HGP.out).trans HP0.out
    have HC:=hid (wmerge_any A1 A2 A3 A n1 n2 n3 n c1 c2 c3 c L wq HI.out.row HI.out.cap (by have:=HF.out.le;omega) (by have:=HF.out.tk;omega))
    have HI0:=hid hi0
    clear hi0
    obtain⟨X,hX⟩:∃ X,X=tidy L:=⟨_,rfl⟩
    rw[← hX] at HC HS0 HFT HVT
    obtain⟨mb,hmb⟩:∃ mb,mb=mergeB L:=⟨_,rfl⟩
    rw[← hmb] at HC HS0 HS1
    obtain⟨ok,hok⟩:∃ ok,ok=okF P C L:=⟨_,rfl⟩
    rw[← hok] at HS0 HS1 HVT
    have HMB:=hid hmb
    have HOK:=hid hok
    clear hX hmb hok
    cases mb with
    | true =>
     go_wp2_with fail
     refine HC.out.mono ?_
     rintro e w5 ⟨A5,c5,rfl,hr5,hc5,hb5⟩
     have HR5:=hid hr5
     have HB5:=hid hb5
     have HVA:=hid (valid_any A1 A2 A3 A A5 n1 n2 n3 n X.length c1 c2 c3 c c5 P C L X w5 (HI.out.on hb5).cf (HI.out.on hb5).row hr5 HI.out.q1 HI.out.n1c HI.out.q2 HI.out.cap hc5 (by have:=HF.out.le;omega) (by have:=HF.out.tk;omega) HI.out.per HFT.out)
     rw[HVT.out] at HVA
     clear m0 m1 m2 hr5 HC hce
     obtain⟨m0,m1,m2⟩:=HBX.out w5 (HW.out.trans (hb5.mono HW.out.size))
     clear hb5
     cases ok with
     | true =>
      go_wp2_with fail
      refine HVA.out.mono ?_
      rintro e w6 ⟨rfl,hb6⟩
      have HB6:=hid hb6
      clear hb6 m0 m1 m2 HVA
      go_wp2_with fail
      go_ret2
      rw[HS0.out (by simp) (by simp)]
      exact⟨HB0.out.trans ((HW.out.trans ((HB5.out.trans (HB6.out.mono HB5.out.size)).mono HW.out.size)).mono HB0.out.size),A5,c5,rfl,HR5.out.on HB6.out,hc5⟩
     | false =>
      go_wp2_with fail
      refine HVA.out.mono ?_
      rintro e w6 ⟨rfl,hb6⟩
      have HB6:=hid (HK.out.trans ((HB5.out.trans (hb6.mono HB5.out.size)).mono HK.out.size))
      clear hb6 m0 m1 m2 HVA
      go_wp2_with fail
      go_roundw
      case rel=>exact⟨i+1,by omega,by go_num,fun _ h=>(by rw[← HOK.out] at h;exact absurd h.2 (by simp)),fun h=>by have:=HI0.out;omega,HB6.out⟩
      case measure=>simp[intOf];omega
    | false =>
     go_wp2_with fail
     refine HC.out.mono ?_
     rintro e w5 ⟨A5,c5,rfl,hr5,hc5,hb5⟩
     have HB6:=hid (HK.out.trans (hb5.mono HK.out.size))
     clear m0 m1 m2 hr5 HC hce hb5
     go_wp2_with fail
     go_roundw
     case rel=>exact⟨i+1,by omega,by go_num,fun _ h=>(by rw[← HMB.out] at h;exact absurd h.1 (by simp)),fun h=>by have:=HI0.out;omega,HB6.out⟩
     case measure=>simp[intOf];omega
   ·have hi1:i=1:=by omega
    have hce:wq.cell? ⟨gp,i,none⟩=some (.func (.func 68) #[.func (.func 54) #[] #[]] #[]):=by rw[hi1];exact(HK.out.cell (p:=⟨gp,1,none⟩) HGP.out).trans HP1.out
    have HC:=hid (wdraw_any A1 A2 A3 A n1 n2 n3 n c1 c2 c3 c P C L wq HI.out.cf HI.out.row (by have:=HI.out.q1;omega) HI.out.q2 HI.out.cap (by have:=HF.out.le;omega) (by have:=HF.out.tk;omega) HI.out.per)
    have hdr:=HS1.out (HNO.out (by omega))
    have HI1:=hid hi1
    clear hi1 hi0
    cases hdb:drwB P C L with
    | true =>
     have hds:=drwR_some hdb
     have hvd:=validF_draw hds
     rw[hdb] at HC
     rw[hds] at hdr
     generalize drwR P C L=X at HC HFD hvd hdr
     have HDR:=hid hdr
     have HVD:=hid hvd
     clear hdr hvd hds hdb
     go_wp2_with fail
     refine HC.out.mono ?_
     rintro e w5 ⟨A5,c5,rfl,hr5,hc5,hb5⟩
     have HR5:=hid hr5
     have HB5:=hid hb5
     have HVA:=hid (valid_any A1 A2 A3 A A5 n1 n2 n3 n X.length c1 c2 c3 c c5 P C L X w5 (HI.out.on hb5).cf (HI.out.on hb5).row hr5 HI.out.q1 HI.out.n1c HI.out.q2 HI.out.cap hc5 (by have:=HF.out.le;omega) (by have:=HF.out.tk;omega) HI.out.per HFD.out)
     rw[HVD.out] at HVA
     clear m0 m1 m2 hr5 HC hce
     obtain⟨m0,m1,m2⟩:=HBX.out w5 (HW.out.trans (hb5.mono HW.out.size))
     clear hb5
     go_wp2_with fail
     refine HVA.out.mono ?_
     rintro e w6 ⟨rfl,hb6⟩
     have HB6:=hid hb6
     clear hb6 m0 m1 m2 HVA
     go_wp2_with fail
     go_ret2
     rw[HDR.out]
     exact⟨HB0.out.trans ((HW.out.trans ((HB5.out.trans (HB6.out.mono HB5.out.size)).mono HW.out.size)).mono HB0.out.size),A5,c5,rfl,HR5.out.on HB6.out,hc5⟩
    | false =>
     rw[hdb] at HC
     rw[drwB_none hdb] at hdr
     have HDR:=hid hdr
     clear hdr hdb
     go_wp2_with fail
     refine HC.out.mono ?_
     rintro e w5 ⟨A5,c5,rfl,hr5,hc5,hb5⟩
     have HB6:=hid (HK.out.trans (hb5.mono HK.out.size))
     clear m0 m1 m2 hr5 HC hce hb5
     go_wp2_with fail
     go_roundw
     case rel=>exact⟨i+1,by omega,by go_num,fun _=>HNO.out (by have:=HI1.out;omega),fun _=>HDR.out,HB6.out⟩
     case measure=>simp[intOf];omega
  ·have hlti:¬ (i:Int) < 2:=by omega
   have HRN:=hid (HEN.out (by omega))
   go_wp2_with fail
   go_ret2
   rw[HRN.out]
   exact⟨HB0.out.trans (HW.out.mono HB0.out.size),rfl⟩
set_option maxRecDepth 100000 in
set_option maxHeartbeats 8000000 in
theorem preds_any (A1 A2 A3 A:Option Addr) (n1 n2 n3 n c1 c2 c3 c:Nat) (P:List PtV) (C:List ChV) (L:List Rn) (w:World) (hI:RedIn w A1 A2 A n1 n2 n c1 c P C L) :
  Calls Tryz.prog 33 #[.agg #[.slice A1 n1 c1,.slice A2 n2 c2,.slice A3 n3 c3],.slice A n c] w (RowNn (redF P C n L).1 (redF P C n L).2 w):=by
 have hb0:=bl1 w (.cells #[.slice A1 n1 c1,.slice A2 n2 c2,.slice A3 n3 c3] 31)
 have hbox:=box_vec w (.slice A1 n1 c1) (.slice A2 n2 c2) (.slice A3 n3 c3) 31
 have hn96:=hI.frm.le
 have HIN:=hid (hI.on hb0)
 have HB0:=hid hb0
 obtain⟨RR,hRR⟩:∃ RR,RR=redF P C n L:=⟨_,rfl⟩
 rw[← hRR]
 have HRR:=hid hRR
 clear hI hb0 hRR
 go_enter Tryz.func33,Tryz.ntmps33
 go_upto_region 1 with fail
 generalize w.alloc (.cells #[.slice A1 n1 c1,.slice A2 n2 c2,.slice A3 n3 c3] 31)=W at hbox HIN HB0 ⊢
 obtain⟨gc,hgc⟩:∃ gc,gc=w.heap.size:=⟨_,rfl⟩
 rw[← hgc] at hbox ⊢
 clear hgc
 have HBX:=hid fun V (hv:Below W.heap.size W V)=>(hbox.on hv).three
 clear hbox
 have HCP:=hid (cpr_any A n c L W HIN.out.row HIN.out.cap (by omega))
 go_wp2_with fail
 refine HCP.out.mono ?_
 rintro e w1 ⟨A5,c5,rfl,hr5,hc5,hb5⟩
 have HR5:=hid hr5
 have HK1:=hid hb5
 clear hr5 hb5 HCP
 go_wp2_with fail
 go_loopw [6,7,8,9] (fun q k _ _ wr=>∃(A':Option Addr) (m c' t f:Nat) (X:List Rn),q=.slice A' m c'∧k=.int .i64 t∧m≤c'∧Frm X m∧RdR wr wr.heap.size A' m X∧m≤f∧t+m≤n∧RR.1=(redF P C f X).1∧RR.2=(redF P C f X).2+t∧Below W.heap.size W wr) (fun q _ _ _ _=>lenOf q)
 case atStart=>exact⟨A5,n,c5,0,n,L,rfl,rfl,hc5,HIN.out.frm,HR5.out,Nat.le_refl _,by omega,by rw[HRR.out],by rw[HRR.out];rfl,HK1.out⟩
 case round =>
  obtain⟨A',m,c',t,f,X,rfl,rfl,hmc,hFX,hRX,hmf,hkm,hr1,hr2,hb⟩:=hrel
  have hXl:=hRX.len
  have hmp:=hFX.pos
  have HX:=hid hRX
  have HFX:=hid hFX
  have HR1:=hid hr1
  have HR2:=hid hr2
  have HK:=hid hb
  have hin:=HIN.out.on hb
  have HST:=hid (step_any A1 A2 A3 A' n1 n2 n3 m c1 c2 c3 c' P C X wr ⟨hin.cf,hRX,hin.q1,hin.n1c,hin.q2,hmc,hin.per,hFX⟩)
  obtain⟨m0,m1,m2⟩:=HBX.out wr hb
  have HXL:=hid hXl
  clear hRX hFX hr1 hr2 hb hin hXl
  cases hs:stepF P C X with
  | none =>
   rw[hs] at HST
   have HE1:=hid (redF_end hs f)
   clear hs
   go_wp2_with fail
   refine HST.out.mono ?_
   rintro e w6 ⟨hb6,rfl⟩
   have HB6:=hid hb6
   clear hb6 m0 m1 m2 HST
   go_wp2_with fail
   go_ret2
   refine⟨A',c',?_,?_,?_,HB0.out.trans ((HK.out.trans (HB6.out.mono HK.out.size)).mono HB0.out.size)⟩
   ·rw[HR1.out,HR2.out,HE1.out,← HXL.out];simp
   ·rw[HR1.out,HE1.out]
    show RdR _ _ _ X.length X
    rw[HXL.out]
    exact HX.out.on HB6.out
   ·rw[HR1.out,HE1.out]
    show X.length≤_
    rw[HXL.out]
    exact hmc
  | some Y =>
   rw[hs] at HST
   obtain⟨f',rfl,e1,e2⟩:=redF_step hs (f:=f) (by rw[HXL.out];exact hmf) (by rw[HXL.out];exact hmp)
   have hstd:=stepF_stepd HFX.out HXL.out hs
   have hle:=hstd.less
   rw[HXL.out] at hle
   have HFY:=hid hstd.frm
   have HE1:=hid (HR1.out.trans e1)
   have HE2:Hid (RR.2=(redF P C f' Y).2+(t+1)):=hid (by rw[HR2.out,e2];omega)
   clear hs e1 e2 hstd
   go_wp2_with fail
   refine HST.out.mono ?_
   rintro e w6 ⟨hb6,A7,c7,rfl,hr7,hc7⟩
   have HB6:=hid hb6
   have HR7:=hid hr7
   clear hb6 hr7 m0 m1 m2 HST
   go_wp2_with fail
   go_roundw
   case rel=>exact⟨A7,Y.length,c7,t+1,f',Y,rfl,by go_num,hc7,HFY.out,HR7.out,by omega,by omega,HE1.out,HE2.out,HK.out.trans (HB6.out.mono HK.out.size)⟩
   case measure=>simp[lenOf];omega
end Go.Proofs.YtfddpnhaejkacaaGreat
