import Derived.Test.YtfmndmhjjbeokaaGreatDoorLow37
import Derived.Lib.AppendStr
import Derived.Laws.IdiomStrings
set_option maxHeartbeats 8000000
set_option maxRecDepth 100000
set_option linter.unusedSimpArgs false
set_option linter.unusedVariables false
namespace Go.Proofs.YtfmndmhjjbeokaaGreatDoor
open Go.RowKit Tab Txt
theorem CvS.on{B gc:Nat}{x:Cf}{w w':World}(h:CvS B gc x w)(hb:Below w.heap.size w w'):CvS B gc x w':=⟨h.s.on hb,fun y hy=>(h.pt y hy).below rfl hb,fun y hy=>(h.tt y hy).below rfl hb,h.ok⟩
theorem CvS.r{B gc:Nat}{x:Cf}{w:World}(h:CvS B gc x w):CfR w x :=
 ⟨h.s.pp.rdb,h.s.ch.rdb,h.s.tb.rdb,fun y hy=>⟨⟨(h.ok.pt y hy).1,(h.ok.pt y hy).2.1,⟨(h.ok.pt y hy).2.2.1,(h.pt y hy).rd⟩⟩,(h.pt y hy).cap,(h.ok.pt y hy).2.2.2⟩,fun y hy=>⟨⟨(h.ok.tt y hy).1,(h.tt y hy).rd,(h.ok.tt y hy).2.1⟩,(h.tt y hy).cap,(h.ok.tt y hy).2.2⟩,h.s.pp.cap,h.s.ch.cap,h.s.tb.cap,h.ok.m1,h.ok.m2,h.ok.m3,h.ok.z⟩
theorem T9(x:ChV)(AN:Option Addr)(nn cn:Nat)(N:List (List UInt8))(w:World)(hN:RdB sc w w.heap.size AN nn N)(bX:∀ s∈N,s.length<=64)(hx:Kc nn x)(ht:Hr w):
 Calls Tryz.prog 32 #[cv x,.slice AN nn cn] w (Ans (.string (bsOf (I5 N x))) w):=by
 have bE:=hid (Ib bX hx);have aU:Hd (I5 N x=joinB 32 (chanW N x)++[10]):=hid rfl;have NR:=hid hN;have HT:=hid ht;have CI:=hid hx;obtain⟨cK,cH,xq,cL,cI,cJ⟩:=x;obtain⟨xf,h1⟩:=Ax CI.o.fr.1;obtain⟨xt,h2⟩:=Ax CI.o.tt.1;obtain⟨xc,h3⟩:=Ax CI.o.cap.1;obtain⟨xm,h4⟩:=Ax CI.o.max.1;obtain⟨xl,h5⟩:=Ax CI.o.late.1;dsimp only at h1 h2 h3 h4 h5;subst h1 h2 h3 h4 h5;have aJ:Hd (xf < nn/\xt < nn/\xc<=8/\xm<=4294967295/\xl<=4096):=hid (by
  have h1:=CI.o.fr;have h2:=CI.o.tt;have h3:=CI.o.cap;have h4:=CI.o.max;have h5:=CI.o.late;dsimp only at h1 h2 h3 h4 h5;omega)
 have aR:Hd ((xf:Int) < (nn:Int)/\xf < nn/\(xt:Int) < (nn:Int)/\xt < nn):=hid (by have:=aJ.o;omega);have bZ:Hd (IntKind.i64.wrap (xm:Int)=(xm:Int)):=hid (Nf (by have:=aJ.o;omega));obtain⟨an,nx,rfl,cA,bW,a0,ak⟩:=hN.at_ Fl (by omega) aR.o.2.1;obtain⟨cG,ny,bY,bN,bV,b0,bk⟩:=hN.at_ Fl (by omega) aR.o.2.2.2;obtain rfl:an=cG:=by injection bY
 have a0:=a0 _ rfl;have b0:=b0 _ rfl;rw[Cj] at a0 b0;have aQ:Hd (nmP N (xf:Int)=nx/\nmP N (xt:Int)=ny):=hid ⟨Iq (by omega) bW,Iq (by omega) bV⟩;have hb:=bl1 w (.cells #[.int .i64 (xf:Int),.int .i64 (xt:Int),.bool xq,.int .i64 (xc:Int),.int .u32 (xm:Int),.int .i64 (xl:Int)] 66);have f0:∀ o v,(#[Value.int .i64 (xf:Int),.int .i64 (xt:Int),.bool xq,.int .i64 (xc:Int),.int .u32 (xm:Int),.int .i64 (xl:Int)]:Array Value)[o]? = some v->(w.alloc (.cells #[.int .i64 (xf:Int),.int .i64 (xt:Int),.bool xq,.int .i64 (xc:Int),.int .u32 (xm:Int),.int .i64 (xl:Int)] 66)).cell? ⟨w.heap.size,o,none⟩=some v:=fun o v hv=>(Ab _ _ _ _ _).trans hv;have bD:w.heap.size < (w.alloc (.cells #[.int .i64 (xf:Int),.int .i64 (xt:Int),.bool xq,.int .i64 (xc:Int),.int .u32 (xm:Int),.int .i64 (xl:Int)] 66)).heap.size:=by simp
 have a1:=(hb.cell (Bj _ _ a0)).trans a0;have b1:=(hb.cell (Bj _ _ b0)).trans b0;obtain⟨sx,aX⟩:∃ s,s=bsOf nx:=⟨_,rfl⟩;obtain⟨sy,aV⟩:∃ s,s=bsOf ny:=⟨_,rfl⟩;rw[<- aX] at a1;rw[<- aV] at b1;clear hN bX hx ht ak bk bY CI a0 b0 cA bN bW bV;go_in;go_upto_region 2 with fail;generalize w.alloc (.cells #[.int .i64 (xf:Int),.int .i64 (xt:Int),.bool xq,.int .i64 (xc:Int),.int .u32 (xm:Int),.int .i64 (xl:Int)] 66)=w8 at hb f0 bD a1 b1 |-;generalize w.heap.size=gy at f0 bD |-;have aN:=hid hb;have aT:=hid fun V (hv:Below w8.heap.size w8 V) o v hq=>(hv.cell (p:=⟨gy,o,none⟩) bD).trans (f0 o v hq);have aH:=hid fun V (hv:Below w8.heap.size w8 V)=>(hv.cell (Bj _ _ a1)).trans a1;have aG:=hid fun V (hv:Below w8.heap.size w8 V)=>(hv.cell (Bj _ _ b1)).trans b1;obtain⟨s1,aP⟩:∃ s,s=bsOf (numB xm):=⟨_,rfl⟩;obtain⟨s2,aO⟩:∃ s,s=bsOf (numB xl):=⟨_,rfl⟩;have f2:=aT.o w8 (Aj _ _) 2 _ rfl;have f3:=aT.o w8 (Aj _ _) 3 _ rfl;clear hb f0 bD a1 b1;cases xq with
 | true =>
  obtain⟨s6,aM⟩:∃ s,s=bsOf (I5 N ⟨(xf:Int),(xt:Int),true,(xc:Int),(xm:Int),(xl:Int)⟩):=⟨_,rfl⟩;obtain⟨sk,aL⟩:∃ s,s=bsOf (113::numB xc):=⟨_,rfl⟩;obtain⟨sn,bM⟩:∃ s,s=bsOf (numB xc):=⟨_,rfl⟩;have ad:∀ W,(Op.stringOp .add ⟨#[113]⟩ sn).run Tryz.prog W=.ok (.string sk) W:=by
   rw[bM,aL];exact sadd [113] (numB xc) (by have h1:=num_few (n:=xc) (by have:=aJ.o;omega);show 1+_<=_;omega)
  have bU:=hid (Hu xc (by have:=aJ.o;omega) w8 (HT.o.on aN.o));rw[<- bM] at bU;clear bM;go_wp2_with fail;refine bU.o.mono ?_;rintro e aA⟨rfl,aB⟩;have aI:=hid fun V (hv:Below aA.heap.size aA V)=>aT.o V (aB.trans (hv.mono aB.size));have bT:=hid fun V (hv:Below aA.heap.size aA V)=>aH.o V (aB.trans (hv.mono aB.size));have bS:=hid fun V (hv:Below aA.heap.size aA V)=>aG.o V (aB.trans (hv.mono aB.size));have aD:=hid (aN.o.trans (aB.mono aN.o.size));have aZ:Hd (∀ V,Below aA.heap.size aA V->Below w.heap.size w V):=hid fun V hv=>aD.o.trans (hv.mono aD.o.size);have bC:=hid fun V (hv:Below aA.heap.size aA V)=>Pv xm (by have:=aJ.o;omega) V (HT.o.on (aZ.o V hv));have bB:=hid fun V (hv:Below aA.heap.size aA V)=>Ht xl (by have:=aJ.o;omega) V (HT.o.on (aZ.o V hv));have aF:Hd ([Value.string ⟨#[99,104,97,110]⟩,.string sx,.string sy,.string sk,.string s1,.string s2]=(chanW N ⟨(xf:Int),(xt:Int),true,(xc:Int),(xm:Int),(xl:Int)⟩).flatMap sc):=hid (by
   unfold chanW;dsimp only;rw[aQ.o.1,aQ.o.2,aP,aO,aL,aX,aV];rfl)
  have bA:=hid fun V gl (ho:OwnV 9 1 V aA.heap.size (some ⟨gl,0,none⟩) 6 6 [Value.string ⟨#[99,104,97,110]⟩,.string sx,.string sy,.string sk,.string s1,.string s2])=>M4 (n:=6) (c:=6) (L:=chanW N ⟨(xf:Int),(xt:Int),true,(xc:Int),(xm:Int),(xl:Int)⟩) (by rw[<- aF.o];exact ho) rfl (by omega) (by have h:=bE.o;rw[aU.o,Aa] at h;omega);rw[<- aU.o,<- aM] at bA;rw[<- aP] at bC;rw[<- aO] at bB;have bR:=hid aM;clear aB aT aH aG aN aP aO aM aL aX aV aF aU bE aQ bZ;clear f2 f3 bU;go_upto_region 4 with fail;clear ad;refine Rgs.region (by kernel_rfl) (by kernel_rfl) (fun(bF:Nat) (vl:Value) (wv:World)=>match bF with
   | 0=>vl=.slice (some an) nn cn
   | 1=>vl=.pointer (some ⟨gy,0,none⟩)
   | 2=>vl=.int .i64 (xf:Int)
   | 3=>vl=.pointer (some (an.add xf))
   | 4=>vl=.string sx
   | 5=>vl=.slice (some an) nn cn
   | 6=>vl=.pointer (some ⟨gy,1,none⟩)
   | 7=>vl=.int .i64 (xt:Int)
   | 8=>vl=.pointer (some (an.add xt))
   | 9=>vl=.string sy
   | 10=>vl=.string sk
   | 11=>vl=.pointer (some ⟨gy,4,none⟩)
   | 12=>vl=.int .u32 (xm:Int)
   | 13=>vl=.string s1
   | 14=>vl=.pointer (some ⟨gy,5,none⟩)
   | 15=>vl=.int .i64 (xl:Int)
   | 16=>vl=.string s2
   | 17=>∃ gq,vl=.slice (some ⟨gq,0,none⟩) (6:Nat) 6/\OwnV 9 1 wv aA.heap.size (some ⟨gq,0,none⟩) 6 6 [.string ⟨#[99,104,97,110]⟩,.string sx,.string sy,.string sk,.string s1,.string s2]
   | 18=>vl=.string s6
   | 19=>vl=.string s6
   | _=>True) (fun _ _ wv=>Below aA.heap.size aA wv) (Aj _ _).drew (Rgs.steps_of ?_) ?_
  ·refine⟨?_,?_,?_,?_,?_,?_,?_,?_,?_,?_,?_,?_,?_,?_,?_,?_,?_,?_,?_,?_,trivial⟩<;>intro a w1 live S E D C h0 hk hX
   ·have hW:=hX;have e1:a.eval _=.slice (some an) nn cn:=E 1 rfl;exact Dw hW
   ·have hW:=hX;have e2:a.eval _=.pointer (some ⟨gy,0,none⟩):=E 2 rfl;exact Dw hW
   ·have hW:=hX;have d1:_=_:=rgsDe D 1;have aE:=aI.o w1 hW 0 _ rfl;exact Dw hW
   ·have hW:=hX;have d0:_=_:=rgsDe D 0;have d2:_=_:=rgsDe D 2;have ix:=aR.o;obtain⟨bL,bK,bJ,bI⟩:=ix;have bH:¬ nn<=xf:=by omega
    have bG:¬ nn<=xt:=by omega
    exact Dw hW
   ·have hW:=hX;have d3:_=_:=rgsDe D 3;have aE:=bT.o w1 hW;exact Dw hW
   ·have hW:=hX;have e1:a.eval _=.slice (some an) nn cn:=E 1 rfl;exact Dw hW
   ·have hW:=hX;have e2:a.eval _=.pointer (some ⟨gy,0,none⟩):=E 2 rfl;exact Dw hW
   ·have hW:=hX;have d6:_=_:=rgsDe D 6;have aE:=aI.o w1 hW 1 _ rfl;exact Dw hW
   ·have hW:=hX;have d5:_=_:=rgsDe D 5;have d7:_=_:=rgsDe D 7;have ix:=aR.o;obtain⟨bL,bK,bJ,bI⟩:=ix;have bH:¬ nn<=xf:=by omega
    have bG:¬ nn<=xt:=by omega
    exact Dw hW
   ·have hW:=hX;have d8:_=_:=rgsDe D 8;have aE:=bS.o w1 hW;exact Dw hW
   ·have hW:=hX;have e5:a.eval _=.string sk:=E 5 rfl;exact Dw hW
   ·have hW:=hX;have e2:a.eval _=.pointer (some ⟨gy,0,none⟩):=E 2 rfl;exact Dw hW
   ·have hW:=hX;have cF:_=_:=rgsDe D 11;have aE:=aI.o w1 hW 4 _ rfl;exact Dw hW
   ·have hW:=hX;have d12:_=_:=rgsDe D 12;refine Ei 62 #[.int .u32 (xm:Int)] ?_;refine(bC.o w1 hW).mono ?_;rintro e w5⟨rfl,aC⟩;exact⟨_,rfl,rfl,(hW.trans (aC.mono hW.size)),fun jq vq _ hq=>by
     revert hq
     match jq with
     | 17=>exact fun⟨gq,e1,e2⟩=>⟨gq,e1,OwnV.below e2 rfl aC⟩
     | 0 | 1 | 2 | 3 | 4 | 5 | 6 | 7 | 8 | 9 | 10 | 11 | 12 | 13 | 14 | 15 | 16 | 18 | 19 | _+20=>exact fun hq=>hq⟩
   ·have hW:=hX;have e2:a.eval _=.pointer (some ⟨gy,0,none⟩):=E 2 rfl;exact Dw hW
   ·have hW:=hX;have cE:_=_:=rgsDe D 14;have aE:=aI.o w1 hW 5 _ rfl;exact Dw hW
   ·have hW:=hX;have cD:_=_:=rgsDe D 15;refine Ei 58 #[.int .i64 (xl:Int)] ?_;refine(bB.o w1 hW).mono ?_;rintro e w5⟨rfl,aC⟩;exact⟨_,rfl,rfl,(hW.trans (aC.mono hW.size)),fun jq vq _ hq=>by
     revert hq
     match jq with
     | 17=>exact fun⟨gq,e1,e2⟩=>⟨gq,e1,OwnV.below e2 rfl aC⟩
     | 0 | 1 | 2 | 3 | 4 | 5 | 6 | 7 | 8 | 9 | 10 | 11 | 12 | 13 | 14 | 15 | 16 | 18 | 19 | _+20=>exact fun hq=>hq⟩
   ·have hW:=hX;have d4:_=_:=rgsDe D 4;have d9:_=_:=rgsDe D 9;have bP:_=_:=rgsDe D 10;have d13:_=_:=rgsDe D 13;have bO:_=_:=rgsDe D 16;have aC:=bl1 w1 (.cells #[.string ⟨#[99,104,97,110]⟩,.string sx,.string sy,.string sk,.string s1,.string s2] 9);refine Rgs.grow rfl (Reg.wanted_free rfl) (.slice (some ⟨w1.heap.size,0,none⟩) (6:Nat) 6) (w1.alloc (.cells #[.string ⟨#[99,104,97,110]⟩,.string sx,.string sy,.string sk,.string s1,.string s2] 9)) (by have c:=Reg.consts a;generalize a.eval=ρ at *;simp[execOp,go_sem,c.1,c.2,d4,d9,bP,d13,bO]) ⟨w1.heap.size,rfl,D7 w1 9 1 aA.heap.size #[.string ⟨#[99,104,97,110]⟩,.string sx,.string sy,.string sk,.string s1,.string s2] 6 rfl hW.size (by unfold maxLen;omega)⟩ (hW.trans (aC.mono hW.size)) (fun jq vq _ hq=>by
     revert hq
     match jq with
     | 17=>exact fun⟨gq,e1,e2⟩=>⟨gq,e1,OwnV.below e2 rfl aC⟩
     | 0 | 1 | 2 | 3 | 4 | 5 | 6 | 7 | 8 | 9 | 10 | 11 | 12 | 13 | 14 | 15 | 16 | 18 | 19 | _+20=>exact fun hq=>hq)
   ·have hW:=hX;obtain⟨gl,dl,ho⟩:=rgsDe D 17;refine Ei 33 #[.slice (some ⟨gl,0,none⟩) (6:Nat) 6] ?_;refine(bA.o w1 gl ho).mono ?_;rintro e w5⟨rfl,aC⟩;exact⟨_,rfl,rfl,(hW.trans (aC.mono hW.size)),fun jq vq _ hq=>by
     revert hq
     match jq with
     | 17=>exact fun⟨gq,e1,e2⟩=>⟨gq,e1,OwnV.below e2 rfl aC⟩
     | 0 | 1 | 2 | 3 | 4 | 5 | 6 | 7 | 8 | 9 | 10 | 11 | 12 | 13 | 14 | 15 | 16 | 18 | 19 | _+20=>exact fun hq=>hq⟩
   have hW:=hX;have cC:_=_:=rgsDe D 18;exact Dw hW
  intro a w4 live hs hd E D Hl hX;have e4:a.eval (.tmp 4)=.string s6:=by
   obtain⟨v,hv,he⟩:=D 19 _ rfl;exact(he 4 rfl).trans hv
  rw[Rgs.act_ws a _ _ hs hd E [12,13,14,15,16,17,18,19,20,21,22,23,24,25,26,27,28,29,30,4] (by kernel_rfl)];simp only[List.foldl,Bg,Bv,Bp,e4];have bQ:=hid hX;clear E D Hl hX e4;generalize a.eval=ρ;clear a hs hd;go_wp2;go_ret;exact Ans.mk (congrArg Value.string bR.o.symm) (aD.o.trans (bQ.o.mono aD.o.size))
 | false =>
  obtain⟨s6,aM⟩:∃ s,s=bsOf (I5 N ⟨(xf:Int),(xt:Int),false,(xc:Int),(xm:Int),(xl:Int)⟩):=⟨_,rfl⟩;obtain⟨sk,aL⟩:∃ s,s=bsOf [115]:=⟨_,rfl⟩;obtain⟨aA,aK⟩:∃ v,v=w8:=⟨_,rfl⟩;have aB:Below w8.heap.size w8 aA:=by rw[aK];exact Aj _ _
  have aY:(⟨#[115]⟩:ByteArray)=sk:=by rw[aL];rfl
  have aI:=hid fun V (hv:Below aA.heap.size aA V)=>aT.o V (aB.trans (hv.mono aB.size));have bT:=hid fun V (hv:Below aA.heap.size aA V)=>aH.o V (aB.trans (hv.mono aB.size));have bS:=hid fun V (hv:Below aA.heap.size aA V)=>aG.o V (aB.trans (hv.mono aB.size));have aD:=hid (aN.o.trans (aB.mono aN.o.size));have aZ:Hd (∀ V,Below aA.heap.size aA V->Below w.heap.size w V):=hid fun V hv=>aD.o.trans (hv.mono aD.o.size);have bC:=hid fun V (hv:Below aA.heap.size aA V)=>Pv xm (by have:=aJ.o;omega) V (HT.o.on (aZ.o V hv));have bB:=hid fun V (hv:Below aA.heap.size aA V)=>Ht xl (by have:=aJ.o;omega) V (HT.o.on (aZ.o V hv));have aF:Hd ([Value.string ⟨#[99,104,97,110]⟩,.string sx,.string sy,.string sk,.string s1,.string s2]=(chanW N ⟨(xf:Int),(xt:Int),false,(xc:Int),(xm:Int),(xl:Int)⟩).flatMap sc):=hid (by
   unfold chanW;dsimp only;rw[aQ.o.1,aQ.o.2,aP,aO,aL,aX,aV];rfl)
  have bA:=hid fun V gl (ho:OwnV 9 1 V aA.heap.size (some ⟨gl,0,none⟩) 6 6 [Value.string ⟨#[99,104,97,110]⟩,.string sx,.string sy,.string sk,.string s1,.string s2])=>M4 (n:=6) (c:=6) (L:=chanW N ⟨(xf:Int),(xt:Int),false,(xc:Int),(xm:Int),(xl:Int)⟩) (by rw[<- aF.o];exact ho) rfl (by omega) (by have h:=bE.o;rw[aU.o,Aa] at h;omega);rw[<- aU.o,<- aM] at bA;rw[<- aP] at bC;rw[<- aO] at bB;have bR:=hid aM;clear aB aT aH aG aN aP aO aM aL aX aV aF aU bE aQ bZ;clear f3;go_upto_region 4 with fail;clear f2;rw[aY,<- aK];clear aY aK;refine Rgs.region (by kernel_rfl) (by kernel_rfl) (fun(bF:Nat) (vl:Value) (wv:World)=>match bF with
   | 0=>vl=.slice (some an) nn cn
   | 1=>vl=.pointer (some ⟨gy,0,none⟩)
   | 2=>vl=.int .i64 (xf:Int)
   | 3=>vl=.pointer (some (an.add xf))
   | 4=>vl=.string sx
   | 5=>vl=.slice (some an) nn cn
   | 6=>vl=.pointer (some ⟨gy,1,none⟩)
   | 7=>vl=.int .i64 (xt:Int)
   | 8=>vl=.pointer (some (an.add xt))
   | 9=>vl=.string sy
   | 10=>vl=.string sk
   | 11=>vl=.pointer (some ⟨gy,4,none⟩)
   | 12=>vl=.int .u32 (xm:Int)
   | 13=>vl=.string s1
   | 14=>vl=.pointer (some ⟨gy,5,none⟩)
   | 15=>vl=.int .i64 (xl:Int)
   | 16=>vl=.string s2
   | 17=>∃ gq,vl=.slice (some ⟨gq,0,none⟩) (6:Nat) 6/\OwnV 9 1 wv aA.heap.size (some ⟨gq,0,none⟩) 6 6 [.string ⟨#[99,104,97,110]⟩,.string sx,.string sy,.string sk,.string s1,.string s2]
   | 18=>vl=.string s6
   | 19=>vl=.string s6
   | _=>True) (fun _ _ wv=>Below aA.heap.size aA wv) (Aj _ _).drew (Rgs.steps_of ?_) ?_
  ·refine⟨?_,?_,?_,?_,?_,?_,?_,?_,?_,?_,?_,?_,?_,?_,?_,?_,?_,?_,?_,?_,trivial⟩<;>intro a w1 live S E D C h0 hk hX
   ·have hW:=hX;have e1:a.eval _=.slice (some an) nn cn:=E 1 rfl;exact Dw hW
   ·have hW:=hX;have e2:a.eval _=.pointer (some ⟨gy,0,none⟩):=E 2 rfl;exact Dw hW
   ·have hW:=hX;have d1:_=_:=rgsDe D 1;have aE:=aI.o w1 hW 0 _ rfl;exact Dw hW
   ·have hW:=hX;have d0:_=_:=rgsDe D 0;have d2:_=_:=rgsDe D 2;have ix:=aR.o;obtain⟨bL,bK,bJ,bI⟩:=ix;have bH:¬ nn<=xf:=by omega
    have bG:¬ nn<=xt:=by omega
    exact Dw hW
   ·have hW:=hX;have d3:_=_:=rgsDe D 3;have aE:=bT.o w1 hW;exact Dw hW
   ·have hW:=hX;have e1:a.eval _=.slice (some an) nn cn:=E 1 rfl;exact Dw hW
   ·have hW:=hX;have e2:a.eval _=.pointer (some ⟨gy,0,none⟩):=E 2 rfl;exact Dw hW
   ·have hW:=hX;have d6:_=_:=rgsDe D 6;have aE:=aI.o w1 hW 1 _ rfl;exact Dw hW
   ·have hW:=hX;have d5:_=_:=rgsDe D 5;have d7:_=_:=rgsDe D 7;have ix:=aR.o;obtain⟨bL,bK,bJ,bI⟩:=ix;have bH:¬ nn<=xf:=by omega
    have bG:¬ nn<=xt:=by omega
    exact Dw hW
   ·have hW:=hX;have d8:_=_:=rgsDe D 8;have aE:=bS.o w1 hW;exact Dw hW
   ·have hW:=hX;have e5:a.eval _=.string sk:=E 5 rfl;exact Dw hW
   ·have hW:=hX;have e2:a.eval _=.pointer (some ⟨gy,0,none⟩):=E 2 rfl;exact Dw hW
   ·have hW:=hX;have cF:_=_:=rgsDe D 11;have aE:=aI.o w1 hW 4 _ rfl;exact Dw hW
   ·have hW:=hX;have d12:_=_:=rgsDe D 12;refine Ei 62 #[.int .u32 (xm:Int)] ?_;refine(bC.o w1 hW).mono ?_;rintro e w5⟨rfl,aC⟩;exact⟨_,rfl,rfl,(hW.trans (aC.mono hW.size)),fun jq vq _ hq=>by
     revert hq
     match jq with
     | 17=>exact fun⟨gq,e1,e2⟩=>⟨gq,e1,OwnV.below e2 rfl aC⟩
     | 0 | 1 | 2 | 3 | 4 | 5 | 6 | 7 | 8 | 9 | 10 | 11 | 12 | 13 | 14 | 15 | 16 | 18 | 19 | _+20=>exact fun hq=>hq⟩
   ·have hW:=hX;have e2:a.eval _=.pointer (some ⟨gy,0,none⟩):=E 2 rfl;exact Dw hW
   ·have hW:=hX;have cE:_=_:=rgsDe D 14;have aE:=aI.o w1 hW 5 _ rfl;exact Dw hW
   ·have hW:=hX;have cD:_=_:=rgsDe D 15;refine Ei 58 #[.int .i64 (xl:Int)] ?_;refine(bB.o w1 hW).mono ?_;rintro e w5⟨rfl,aC⟩;exact⟨_,rfl,rfl,(hW.trans (aC.mono hW.size)),fun jq vq _ hq=>by
     revert hq
     match jq with
     | 17=>exact fun⟨gq,e1,e2⟩=>⟨gq,e1,OwnV.below e2 rfl aC⟩
     | 0 | 1 | 2 | 3 | 4 | 5 | 6 | 7 | 8 | 9 | 10 | 11 | 12 | 13 | 14 | 15 | 16 | 18 | 19 | _+20=>exact fun hq=>hq⟩
   ·have hW:=hX;have d4:_=_:=rgsDe D 4;have d9:_=_:=rgsDe D 9;have bP:_=_:=rgsDe D 10;have d13:_=_:=rgsDe D 13;have bO:_=_:=rgsDe D 16;have aC:=bl1 w1 (.cells #[.string ⟨#[99,104,97,110]⟩,.string sx,.string sy,.string sk,.string s1,.string s2] 9);refine Rgs.grow rfl (Reg.wanted_free rfl) (.slice (some ⟨w1.heap.size,0,none⟩) (6:Nat) 6) (w1.alloc (.cells #[.string ⟨#[99,104,97,110]⟩,.string sx,.string sy,.string sk,.string s1,.string s2] 9)) (by have c:=Reg.consts a;generalize a.eval=ρ at *;simp[execOp,go_sem,c.1,c.2,d4,d9,bP,d13,bO]) ⟨w1.heap.size,rfl,D7 w1 9 1 aA.heap.size #[.string ⟨#[99,104,97,110]⟩,.string sx,.string sy,.string sk,.string s1,.string s2] 6 rfl hW.size (by unfold maxLen;omega)⟩ (hW.trans (aC.mono hW.size)) (fun jq vq _ hq=>by
     revert hq
     match jq with
     | 17=>exact fun⟨gq,e1,e2⟩=>⟨gq,e1,OwnV.below e2 rfl aC⟩
     | 0 | 1 | 2 | 3 | 4 | 5 | 6 | 7 | 8 | 9 | 10 | 11 | 12 | 13 | 14 | 15 | 16 | 18 | 19 | _+20=>exact fun hq=>hq)
   ·have hW:=hX;obtain⟨gl,dl,ho⟩:=rgsDe D 17;refine Ei 33 #[.slice (some ⟨gl,0,none⟩) (6:Nat) 6] ?_;refine(bA.o w1 gl ho).mono ?_;rintro e w5⟨rfl,aC⟩;exact⟨_,rfl,rfl,(hW.trans (aC.mono hW.size)),fun jq vq _ hq=>by
     revert hq
     match jq with
     | 17=>exact fun⟨gq,e1,e2⟩=>⟨gq,e1,OwnV.below e2 rfl aC⟩
     | 0 | 1 | 2 | 3 | 4 | 5 | 6 | 7 | 8 | 9 | 10 | 11 | 12 | 13 | 14 | 15 | 16 | 18 | 19 | _+20=>exact fun hq=>hq⟩
   have hW:=hX;have cC:_=_:=rgsDe D 18;exact Dw hW
  intro a w4 live hs hd E D Hl hX;have e4:a.eval (.tmp 4)=.string s6:=by
   obtain⟨v,hv,he⟩:=D 19 _ rfl;exact(he 4 rfl).trans hv
  rw[Rgs.act_ws a _ _ hs hd E [12,13,14,15,16,17,18,19,20,21,22,23,24,25,26,27,28,29,30,4] (by kernel_rfl)];simp only[List.foldl,Bg,Bv,Bp,e4];have bQ:=hid hX;clear E D Hl hX e4;generalize a.eval=ρ;clear a hs hd;go_wp2;go_ret;exact Ans.mk (congrArg Value.string bR.o.symm) (aD.o.trans (bQ.o.mono aD.o.size))
theorem ef:(Tryz.prog.info? 5).map (fun i=>(i.zero,i.size,i.bytes))=some (some (.int .u8 0),1,1):=by kernel_rfl
def byC(l:List UInt8):List Value:=l.map fun b=>.int .u8 (b.toNat:Int)
theorem Wy(l:List UInt8):(byC l).length=l.length:=by simp[byC]
theorem jk(t:List UInt8):Lib.strCells (bsOf t)=byC t:=rfl
theorem Gl(t:List UInt8):(bsOf t).size=t.length:=by show t.toArray.size=_;simp
theorem Yz{w w':World}{B E s n c:Nat}{A:Option Addr}{l:List Value}(h:OwnV E s w B A n c l)(hg:w.grownBy w' (obk A))(hB:B<=w.heap.size):Below B w w' :=
 (Aj _ _).grown hg hB fun k hk=>(h.obk_ge hk).1
theorem I6{ops:Array Oper}{aB:List Oper}{o:Oper}{a:Act}{Q:Exit->Act->World->Prop}{w:World}(aF:o.guard=none)(sl x:Operand)
  (ho:o.op=.call { callee:=.builtin .append,args:=#[sl,x],argTypes:=#[38,9] })
  (B:Nat) (A:Option Addr) (n c:Nat) (l0:List UInt8) (hs:a.eval sl=.slice A n c) (h:OwnV 5 1 w B A n c (byC l0)) (s:ByteArray) (t:List UInt8) (hx:a.eval x=.string s) (aE:s=bsOf t) (hb:n+t.length<=1099511627776) (hB:B<=w.heap.size)
  (N:Nat) (hN:n+t.length=N) (L:List UInt8) (hL:l0++t=L)
  (hK:∀ A' c' w',OwnV 5 1 w' B A' N c' (byC L)->w.grownBy w' (obk A)->wpList Tryz.prog ops Q aB (a.put o.dst (.slice A' N c')) w'):wpList Tryz.prog ops Q (o::aB) a w:=by
 subst hN;subst hL;subst aE;obtain⟨i,hi,hz,aD,aG⟩:=info_parts ef;refine Lib.wpList_append_own_string (P:=Tryz.prog) w aF sl x 38 9 ho B 5 i Tryz.underlying38 Tryz.underlying9 hi hz aD aG (.slice A n c) n (byC l0) hs h (bsOf t) hx (by rw[Gl];unfold maxLen;omega) (by rw[Gl];omega) hB ?_;intro v' w' aA aC _;rw[Io] at aC;have e:byC l0++Lib.strCells (bsOf t)=byC (l0++t):=by rw[jk];unfold byC;rw[De]
 rw[Gl,e] at aA;rcases aA.2 with ⟨hv,h0⟩ | ⟨g,cap,aH,hv,_⟩
 ·subst hv;have e0:n+t.length=0:=h0;have:=hK none 0 w' (by unfold OwnV;rw[e0] at aA |-;exact aA) aC;rw[e0] at this;exact this
 subst hv;exact hK _ _ w' aA aC
theorem R5{w:World}{B n c:Nat}{A:Option Addr}{l:List UInt8}(h:OwnV 5 1 w B A n c (byC l)):(convert 38 9 (.slice A n c)).run Tryz.prog w=.ok (.string (bsOf l)) w:=by
 have hl:l.length=n:=by have h1:=h.1;rw[Wy,Cj] at h1;exact h1
 rcases h.2 with ⟨hv,h0⟩ | ⟨g,cap,aA,hv,_⟩
 ·have hn:n=0:=h0;subst hn;obtain rfl:l=[]:=List.eq_nil_of_length_eq_zero hl;injection hv with h1;subst h1;rw[run_convert_bytes_string w _ _ _ _ _ _ Tryz.underlying38 Tryz.underlying5 Tryz.underlying9];simp[Conv.bytesToString];rfl
 injection hv with h1;subst h1;obtain rfl:=hl;exact run_convert_bytes_back w 38 9 5 ⟨g,0,none⟩ c l Tryz.underlying38 Tryz.underlying5 Tryz.underlying9 fun j hj =>
  World.ownsRow.cells h (g:=g) rfl j _ (by simp[byC,hj])
theorem j0{ops:Array Oper}{aA:List Oper}{o:Oper}{a:Act}{Q:Exit->Act->World->Prop}{w:World}(aB:o.guard=none)(x:Operand)
  (ho:o.op=.convert 38 9 x) (B:Nat) (A:Option Addr) (n c:Nat) (l:List UInt8) (hx:a.eval x=.slice A n c) (hr:OwnV 5 1 w B A n c (byC l))
  (hK:wpList Tryz.prog ops Q aA (a.put o.dst (.string (bsOf l))) w):wpList Tryz.prog ops Q (o::aA) a w:=by
 refine wpList_plain aB fun K hk=>?_;unfold Oper.wp;simp[execOp,ho,hx,R5 hr,Result.andThen];exact hk _ _ hK
structure PrW(W0:World)(gs n1:Nat)(NL:List Value)(A:Option Addr)(m c:Nat)(l:List UInt8)(w:World):Prop where
 lines:OwnV 5 1 w W0.heap.size A m c (byC l)
 names:OwnV 9 1 w W0.heap.size (some ⟨gs,0,none⟩) n1 n1 NL
 on:Below W0.heap.size W0 w
theorem PrW.len{W0:World}{gs n1:Nat}{NL:List Value}{A:Option Addr}{m c:Nat}{l:List UInt8}{w:World}(h:PrW W0 gs n1 NL A m c l w):m=l.length:=by
 have h1:=h.lines.1;rw[Wy,Cj] at h1;exact h1.symm
theorem PrW.below{W0:World}{gs n1:Nat}{NL:List Value}{A:Option Addr}{m c:Nat}{l:List UInt8}{w w':World}(h:PrW W0 gs n1 NL A m c l w)(hb:Below w.heap.size w w'):PrW W0 gs n1 NL A m c l w' :=
 ⟨h.lines.below rfl hb,h.names.below rfl hb,h.on.trans (hb.mono h.on.size)⟩
theorem PrW.app{W0:World}{gs n1:Nat}{NL:List Value}{A A':Option Addr}{m c m' c':Nat}{l l':List UInt8}{w w':World}(h:PrW W0 gs n1 NL A m c l w)(ho:OwnV 5 1 w' W0.heap.size A' m' c' (byC l'))(hg:w.grownBy w' (obk A)):PrW W0 gs n1 NL A' m' c' l' w' :=
 ⟨ho,OwnV.keep' h.names fun k hk=>hg.block k (OwnV.older h.names hk) (fun e=>OwnV.apart h.names h.lines (by decide) k hk e.symm),h.on.trans (Yz h.lines hg h.on.size)⟩
theorem PrW.name{W0:World}{gs n1:Nat}{NL:List Value}{A:Option Addr}{m c:Nat}{l:List UInt8}{w:World}(h:PrW W0 gs n1 NL A m c l w)(i:Nat)(hi:i < n1)(v:Value):PrW W0 gs n1 (NL.set i v) A m c l (w.setCell ⟨gs,i,none⟩ v) :=
 ⟨OwnV.other h.lines _ _ (OwnV.apart' h.lines h.names (by decide)),OwnV.set h.names i v (by rw[h.names.1];omega),h.on.setCell (p:=⟨gs,i,none⟩) (OwnV.obk_ge h.names (b:=gs) rfl).1 v⟩
theorem PrW.cell{W0:World}{gs n1:Nat}{NL:List Value}{A:Option Addr}{m c:Nat}{l:List UInt8}{w:World}(h:PrW W0 gs n1 NL A m c l w)(i:Nat)(hi:i < n1):(∃ v,w.cell? ⟨gs,i,none⟩=some v)/\w.frozen? ⟨gs,i,none⟩=false :=
 ⟨⟨_,(Ah h.names i (by omega)).trans (Am (by rw[h.names.1];omega))⟩,Aq h.names i⟩
theorem Zy(N:List (List UInt8))(y:Nd)(k:F):Pc N (.cons y k .nil)=joinB 32 [wTable,txN (nmP N) y (txX (nmP N) k false)]++[10]:=by
 unfold Pc tabW;rw[Ky]
theorem Ud(x:Cf)(Fs:List F)(w:World)(hx:CfR w x)(hr:RiX x)(hs:SmX 16 x)(bZ:Fs.length=x.n3)(hF:∀(i:Nat) (t:NdT) (f:F),x.T[i]? = some t->Fs[i]? = some f->∃ y k,f=.cons y k .nil/\f.ok/\t.l=y::k.flat)(hm:∀ y∈x.C,0<=y.max/\y.max<=4294967295)(cQ:∀ t∈x.T,∀ z∈t.l,z.k=1->z.p < x.n1)
  (cZ:∀ V,Below w.heap.size w V->Calls Tryz.prog 30 #[cfv x] V (Ans (.int .i64 0) V)) (ht:Hr w):Calls Tryz.prog 11 #[cfv x] w (Ans (.string (bsOf (textT (linesT x.P x.C Fs)))) w):=by
 have aR:=hid hx.pp;have cL:=hid hx.ch;have dF:=hid hx.tb;have aG:∀(k:Nat) (y:Pq),x.P[k]? = some y->Ie y/\RdB prc w w.heap.size y.1.pa y.1.pn y.2:=fun k y hy=>⟨Ie.of hy (hr.pt k (Af.1 hy).1),(hx.pt y (An hy)).1.procs⟩;have l1:=hx.pp.len;have l2:=hx.ch.len;have l3:=hx.tb.len;have z1:x.n1<=6:=by rw[<- l1];exact hr.sz.2.1
 have z2:x.n2<=8:=by rw[<- l2];exact hr.sz.2.2.1
 have z3:x.n3<=3:=by rw[<- l3];exact hr.sz.2.2.2.2
 have bY:∀(k:Nat) (y:ChV),x.C[k]? = some y->Kc x.n1 y:=fun k y hy=>by
  have:=hr.ch k (Af.1 hy).1;rw[l1] at this;exact Kc.of hy this (hm y (An hy))
 have bK:∀ s∈namesP x.P,s.length<=64:=fun s dL=>by
  obtain⟨y,hy,rfl⟩:=By.1 dL;obtain⟨k,hk⟩:=Bl hy;have:=Lh (aG k y hk).1.name;omega
 have aI:∀ y∈x.T,RdN w w.heap.size y.A y.n y.l/\y.n<=y.c/\y.n<=1040:=fun y hy=>⟨(hx.tt y hy).rd,(hx.tt y hy).cap,by have:=hs.nd y hy;omega⟩;obtain⟨PF,p0,ps,pe,pb⟩:=J7 I0 100 x.P (fun y hy=>by obtain⟨k,hk⟩:=Bl hy;exact Hy (aG k y hk).1 (hx.pt y hy).1.procs.len) [];rw[l1] at pe pb;obtain⟨CF,c0,cs,ce,cb⟩:=J7 (I5 (namesP x.P)) 170 x.C (fun y hy=>by obtain⟨k,hk⟩:=Bl hy;exact Ib bK (bY k y hk)) (PF x.n1);rw[l2] at ce cb;have aM:∀ f∈Fs,(Pc (namesP x.P) f).length<=104010:=fun f hf=>by
  obtain⟨i,hi⟩:=Bl hf;have aY:=(Af.1 hi).1;obtain⟨t,ht⟩:∃ t,x.T[i]? = some t:=⟨_,Am (by omega)⟩;obtain⟨y,k,rfl,bW,aM⟩:=hF i t f ht hi;have bS:=aI t (An ht);have e:(F.cons y k .nil).flat=t.l:=by rw[aM];show y::(k.flat++[])=_;rw[Az]
  have h1:=I8 (Ip bK) (F.cons y k .nil) (fun z hz=>(bS.1.bd z (by rw[<- e];exact hz)).2.2) false;have h2:(F.cons y k .nil).sz=t.n:=by rw[<- F.flat_length,e];exact bS.1.len
  have h3:=bS.2.2;rw[h2] at h1;rw[M5];simp only[Aa,Ad,Bh,show wTable.length=5 from rfl];omega
 obtain⟨TF,t0,ts,te,tb⟩:=J7 (Pc (namesP x.P)) 104010 Fs aM (CF x.n2);rw[bZ] at te tb;have aZ:TF x.n3=textT (linesT x.P x.C Fs):=by rw[te,ce,pe,I9,Cw]
 have bR:∀ i,i<=x.n1->(PF i).length<=600:=fun i hi=>by have:=pb i hi;simp at this;omega
 have cA:∀ i,i<=x.n2->(CF i).length<=2000:=fun i hi=>by have h1:=cb i hi;have h2:=bR x.n1 (Ag _);omega
 have cO:∀ i,i<=x.n3->(TF i).length<=400000:=fun i hi=>by have h1:=tb i hi;have h2:=cA x.n2 (Ag _);omega
 have cG:=hid aG;have cK:=hid bY;have dE:=hid aI;have bP:=hid bK;have bO:=hid p0;have cF:=hid ps;have cI:=hid bR;have bQ:=hid c0;have cJ:=hid cs;have cM:=hid cA;have bM:=hid t0;have dD:=hid ts;have bD:=hid cO;have aU:=hid aZ;have dJ:=hid hF;have dI:=hid bZ;have dG:=hid cQ;have cE:=hid cZ;have HT:=hid ht;have cH:=hid fun(k:Nat) (y:Pq) (hy:x.P[k]? = some y)=>(hx.pt y (An hy)).2.1;have bC:=hid aM;have aJ:=hid (And.intro l1 (And.intro l2 l3));generalize textT (linesT x.P x.C Fs)=RES at aU |-;clear ht aG bY aI bK p0 ps pe pb c0 cs ce cb t0 ts te tb aZ bR cA cO l1 l2 l3 hx hr hs bZ hF hm cQ cZ aM;obtain⟨A1,A2,A3,n1,n2,n3,c1,c2,c3,P,C,T⟩:=x;dsimp only[cfv] at cH aR cL dF cG cK dE bP bO cF cI bQ cJ cM bM dD bD aU dJ dI dG cE aJ bC z1 z2 z3 |-;have aV:=bl1 w (.cells #[.slice A1 n1 c1,.slice A2 n2 c2,.slice A3 n3 c3] 31);have aQ:=G9 w (.slice A1 n1 c1) (.slice A2 n2 c2) (.slice A3 n3 c3) 31;go_in;go_upto_region 1 with fail;generalize w.alloc (.cells #[.slice A1 n1 c1,.slice A2 n2 c2,.slice A3 n3 c3] 31)=W0 at aV aQ |-;have bH:=hid fun V (hv:Below W0.heap.size W0 V)=>(aQ.on hv).three;have eH:=hid aV;have HW:=hid fun V (hv:Below W0.heap.size W0 V)=>aV.trans (hv.mono aV.size);obtain⟨g0,cU⟩:∃ g,g=w.heap.size:=⟨_,rfl⟩;rw[<- cU] at bH |-;have eE:=hid (cE.o W0 aV);clear cU aQ aV cE;obtain⟨m0,m1,m2⟩:=bH.o _ (Aj _ _);go_wp2_with fail;refine eE.o.mono ?_;rintro e w1⟨rfl,cY⟩;have bI:=hid cY;clear cY m0 m1 m2;obtain⟨m0,m1,m2⟩:=bH.o _ bI.o;have dM:=Ih n1 (by omega) w1;have bB:=bl1 w1 (.cells (madeCells #[.string ⟨#[]⟩] n1) 9);have bV:=D7 w1 9 1 W0.heap.size (madeCells #[.string ⟨#[]⟩] n1) n1 (by simp[size_madeCells]) bI.o.size (by unfold maxLen;omega);rw[Jz,<- M6 (namesP P) n1] at bV;have bN:Hd (PrW W0 w1.heap.size n1 (Ga (namesP P) n1 0) none 0 0 [] (w1.alloc (.cells (madeCells #[.string ⟨#[]⟩] n1) 9))):=hid ⟨OwnV.nil _ _ _ _,bV,bI.o.trans (bB.mono bI.o.size)⟩;have k0:=bB.cell (Bj _ _ m0) |>.trans m0;have k1:=bB.cell (Bj _ _ m1) |>.trans m1;have k2:=bB.cell (Bj _ _ m2) |>.trans m2;clear bB bV;go_wp2_with fail;clear m0 m1 m2 k0 k1 k2 dM;generalize w1.alloc (.cells (madeCells #[.string ⟨#[]⟩] n1) 9)=wm at bN |-;generalize w1.heap.size=gs at bN |-;go_loopw [4,21] (fun o q wr=>∃(i:Nat) (A:Option Addr) (c:Nat),i<=n1/\q=.int .i64 i/\o=.slice A (PF i).length c/\PrW W0 gs n1 (Ga (namesP P) n1 i) A (PF i).length c (PF i) wr) (fun _ q _=>n1 - (intOf q).toNat)
 case atStart=>exact⟨0,none,0,by omega,rfl,by rw[bO.o];rfl,by rw[bO.o];exact bN.o⟩
 obtain⟨i,A,c,hi,rfl,rfl,aD⟩:=hrel;have aB:=hid aD;clear aD bN bO;by_cases aY:i < n1
 ·have aT:=hid (HW.o _ aB.o.on);obtain⟨ad,y,rfl,dU,hy,d0,ck⟩:=(aR.o.on aT.o).at_ Fv (by omega) aY;have aG:=cG.o i y hy;have eB:=hid (cI.o i hi);have PC:=hid (cH.o i y hy);have dH:Hd ((namesP P)[i]? = some (toL y.1.name)):=hid (by unfold namesP;rw[Bm,hy];rfl);have d0:=d0 _ rfl;have d1:=ck 1 _ (by omega) rfl;have d2:=ck 2 _ (by omega) rfl;have d3:=ck 3 _ (by omega) rfl;have d4:=ck 4 _ (by omega) rfl;have d5:=ck 5 _ (by omega) rfl;have d6:=ck 6 _ (by omega) rfl;have d7:=ck 7 _ (by omega) rfl;have d8:=ck 8 _ (by omega) rfl;have d9:=ck 9 _ (by omega) rfl;have dA:=ck 10 _ (by omega) rfl;have PR:=hid aG.2;have PX:=hid (cF.o i y hy);have PI:=hid aG.1;have dC:=hid (Hy aG.1 aG.2.len);clear aG;obtain⟨⟨nm,bu,pe,aK,st,pa,pn,pc,y0,y1,y2,y3,y4⟩,L⟩:=y;dsimp only at d0 d1 d2 d3 d4 d5 d6 d7 d8 d9 dA PI PR PX dC PC dH;have bA:=bl1 wr (.cells #[.string nm,.int .i64 bu,.int .i64 pe,.bool aK,.bool st,.slice pa pn pc,.int .i64 y0,.int .i64 y1,.int .i64 y2,.int .i64 y3,.int .i64 y4] 60);have aH:=hid (aB.o.below bA);have f:∀ o v,(#[Value.string nm,.int .i64 bu,.int .i64 pe,.bool aK,.bool st,.slice pa pn pc,.int .i64 y0,.int .i64 y1,.int .i64 y2,.int .i64 y3,.int .i64 y4]:Array Value)[o]? = some v->(wr.alloc (.cells #[.string nm,.int .i64 bu,.int .i64 pe,.bool aK,.bool st,.slice pa pn pc,.int .i64 y0,.int .i64 y1,.int .i64 y2,.int .i64 y3,.int .i64 y4] 60)).cell? ⟨wr.heap.size,o,none⟩=some v:=fun o v hv=>(Ab _ _ _ _ _).trans hv;have dS:gs < wr.heap.size:=(OwnV.obk_ge aB.o.names (b:=gs) rfl).2;have bX:wr.heap.size < (wr.alloc (.cells #[.string nm,.int .i64 bu,.int .i64 pe,.bool aK,.bool st,.slice pa pn pc,.int .i64 y0,.int .i64 y1,.int .i64 y2,.int .i64 y3,.int .i64 y4] 60)).heap.size:=by simp
  clear ck dU hy bA aB;go_upto_region 8 with fail;clear d0 d1 d2 d3 d4 d5 d6 d7 d8 d9 dA;generalize wr.alloc (.cells #[.string nm,.int .i64 bu,.int .i64 pe,.bool aK,.bool st,.slice pa pn pc,.int .i64 y0,.int .i64 y1,.int .i64 y2,.int .i64 y3,.int .i64 y4] 60)=w5 at aH f bX |-;generalize wr.heap.size=gx at f bX dS |-;have f0:=f 0 _ rfl;obtain⟨⟨zc,dY⟩,dX⟩:=aH.o.cell i aY;have eF:¬ n1<=i:=by omega
  have cP:(Ga (namesP P) n1 i).set i (.string nm)=Ga (namesP P) n1 (i+1):=Jt aY dH.o;have bU:=aH.o.name i aY (.string nm);rw[cP] at bU;have aP:=hid bU;have h6:∀ o v,(#[Value.string nm,.int .i64 bu,.int .i64 pe,.bool aK,.bool st,.slice pa pn pc,.int .i64 y0,.int .i64 y1,.int .i64 y2,.int .i64 y3,.int .i64 y4]:Array Value)[o]? = some v->(w5.setCell ⟨gs,i,none⟩ (.string nm)).cell? ⟨gx,o,none⟩=some v:=fun o v hv =>
   (Bf (Bn _ _ _ _ (by show gx≠gs;omega))).trans (f o v hv)
  have aA:=hid (Tx (⟨nm,bu,pe,aK,st,pa,pn,pc,y0,y1,y2,y3,y4⟩,L) (w5.setCell ⟨gs,i,none⟩ (.string nm)) PI.o (PR.o.on (HW.o _ aP.o.on)) PC.o (HT.o.on (HW.o _ aP.o.on)));obtain⟨sv,aC⟩:∃ s,s=bsOf (I0 (⟨nm,bu,pe,aK,st,pa,pn,pc,y0,y1,y2,y3,y4⟩,L)):=⟨_,rfl⟩;rw[<- aC] at aA;have cD:=hid aC;clear cP bU aC f bX;go_upto_region 9 with fail;clear f0 dY dX;generalize w5.setCell ⟨gs,i,none⟩ (.string nm)=w6 at aP h6 aA |-;have f0:=h6 0 _ rfl;have f1:=h6 1 _ rfl;have f2:=h6 2 _ rfl;have f3:=h6 3 _ rfl;have f4:=h6 4 _ rfl;have f5:=h6 5 _ rfl;have f6:=h6 6 _ rfl;have f7:=h6 7 _ rfl;have f8:=h6 8 _ rfl;have f9:=h6 9 _ rfl;have dW:=h6 10 _ rfl;clear h6;go_wp2_with fail;refine aA.o.mono ?_;rintro e w7⟨rfl,aO⟩;have aE:=hid (aP.o.below aO);clear f0 f1 f2 f3 f4 f5 f6 f7 f8 f9 dW aO aA aP aH;go_wp2_with (at_builtin;go_loud (refine I6 rfl (.tmp 31) (.tmp 33) rfl W0.heap.size A (PF i).length c (PF i) rfl aE.o.lines sv _ rfl cD.o (by have h1:=eB.o;have h2:=dC.o;omega) aE.o.on.size (PF (i+1)).length (by rw[PX.o,Aa]) (PF (i+1)) PX.o.symm ?_;intro A8 c8 w8 aL aN));have bG:=hid (aE.o.app aL aN);clear aL aN;go_roundw
  case rel=>exact⟨i+1,A8,c8,by omega,by go_num,rfl,bG.o⟩
  simp[intOf];omega
 have dN:¬ (i:Int) < (n1:Int):=by omega
 obtain rfl:i=n1:=by omega
 have hp:=aB.o;rw[Ju (by unfold namesP;rw[Bi];exact aJ.o.1),<- bQ.o] at hp;have bF:=hid hp;obtain⟨m0,m1,m2⟩:=bH.o _ hp.on;have aX:PF i=CF 0:=bQ.o.symm;rw[aX];clear hp aX aB cF cI cG aR bI cH;go_wp2;clear m0 m1 m2;go_loopw [4,39] (fun o q wx=>∃(k:Nat) (B:Option Addr) (b:Nat),k<=n2/\q=.int .i64 k/\o=.slice B (CF k).length b/\PrW W0 gs i ((namesP P).flatMap sc) B (CF k).length b (CF k) wx) (fun _ q _=>n2 - (intOf q).toNat)
 case atStart=>exact⟨0,A,c,by omega,rfl,rfl,bF.o⟩
 obtain⟨k,B,b,hk,rfl,rfl,aD⟩:=hrel;have aB:=hid aD;clear aD bF bQ;by_cases dP:k < n2
 ·have aT:=hid (HW.o _ aB.o.on);obtain⟨ac,y,rfl,dV,hy,d0,ck⟩:=(cL.o.on aT.o).at_ Gk (by omega) dP;have d0:=d0 _ rfl;have d1:=ck 1 _ (by omega) rfl;have d2:=ck 2 _ (by omega) rfl;have d3:=ck 3 _ (by omega) rfl;have d4:=ck 4 _ (by omega) rfl;have d5:=ck 5 _ (by omega) rfl;have CI:=hid (cK.o k y hy);have CX:=hid (cJ.o k y hy);have CB:=hid (cM.o k hk);have dK:=hid (Ib bP.o CI.o);obtain⟨xf,xt,xq,xc,xm,xl⟩:=y;dsimp only at d0 d1 d2 d3 d4 d5 CI CX dK;have bA:=bl1 wr (.cells #[.int .i64 xf,.int .i64 xt,.bool xq,.int .i64 xc,.int .u32 xm,.int .i64 xl] 66);have aH:=hid (aB.o.below bA);have f:∀ o v,(#[Value.int .i64 xf,.int .i64 xt,.bool xq,.int .i64 xc,.int .u32 xm,.int .i64 xl]:Array Value)[o]? = some v->(wr.alloc (.cells #[.int .i64 xf,.int .i64 xt,.bool xq,.int .i64 xc,.int .u32 xm,.int .i64 xl] 66)).cell? ⟨wr.heap.size,o,none⟩=some v:=fun o v hv=>(Ab _ _ _ _ _).trans hv;clear ck dV hy bA aB;go_upto_region 14 with fail;clear d0 d1 d2 d3 d4 d5;generalize wr.alloc (.cells #[.int .i64 xf,.int .i64 xt,.bool xq,.int .i64 xc,.int .u32 xm,.int .i64 xl] 66)=w5 at aH f |-;generalize wr.heap.size=gx at f |-;have aA:=hid (T9 ⟨xf,xt,xq,xc,xm,xl⟩ (some ⟨gs,0,none⟩) i i (namesP P) w5 ⟨by unfold namesP;rw[Bi];exact aJ.o.1,aH.o.names.rd⟩ bP.o CI.o (HT.o.on (HW.o _ aH.o.on)));obtain⟨sv,aC⟩:∃ s,s=bsOf (I5 (namesP P) ⟨xf,xt,xq,xc,xm,xl⟩):=⟨_,rfl⟩;rw[<- aC] at aA;have cD:=hid aC;have f0:=f 0 _ rfl;have f1:=f 1 _ rfl;have f2:=f 2 _ rfl;have f3:=f 3 _ rfl;have f4:=f 4 _ rfl;have f5:=f 5 _ rfl;clear f aC;go_wp2_with fail;refine aA.o.mono ?_;rintro e w7⟨rfl,aO⟩;have aE:=hid (aH.o.below aO);clear f0 f1 f2 f3 f4 f5 aO aA aH;go_wp2_with (at_builtin;go_loud (refine I6 rfl (.tmp 43) (.tmp 46) rfl W0.heap.size B (CF k).length b (CF k) rfl aE.o.lines sv _ rfl cD.o (by have h1:=CB.o;have h2:=dK.o;omega) aE.o.on.size (CF (k+1)).length (by rw[CX.o,Aa]) (CF (k+1)) CX.o.symm ?_;intro A8 c8 w8 aL aN));have bG:=hid (aE.o.app aL aN);clear aL aN;go_roundw
  case rel=>exact⟨k+1,A8,c8,by omega,by go_num,rfl,bG.o⟩
  simp[intOf];omega
 have dO:¬ (k:Int) < (n2:Int):=by omega
 obtain rfl:k=n2:=by omega
 have hp:=aB.o;rw[<- bM.o] at hp;have bE:=hid hp;obtain⟨m0,m1,m2⟩:=bH.o _ hp.on;have aX:CF k=TF 0:=bM.o.symm;rw[aX];clear hp aX aB cJ cM cK cL;go_wp2;clear m0 m1 m2;go_loopw [4,52] (fun o q wy=>∃(j:Nat) (D:Option Addr) (d:Nat),j<=n3/\q=.int .i64 j/\o=.slice D (TF j).length d/\PrW W0 gs i ((namesP P).flatMap sc) D (TF j).length d (TF j) wy) (fun _ q _=>n3 - (intOf q).toNat)
 case atStart=>exact⟨0,B,b,by omega,rfl,rfl,bE.o⟩
 obtain⟨j,D,d,hj,rfl,rfl,aD⟩:=hrel;have aB:=hid aD;clear aD bE bM;by_cases dR:j < n3
 ·have aT:=hid (HW.o _ aB.o.on);obtain⟨at_,tt,rfl,dT,bJ,d0,ck⟩:=(dF.o.on aT.o).at_ Hm (by omega) dR;have d0:=d0 _ rfl;rw[Cj] at d0;obtain⟨ff,bL⟩:∃ f,Fs[j]? = some f:=⟨_,Am (by have:=dI.o;omega)⟩;obtain⟨ny,nk,rfl,bW,aM⟩:=dJ.o j tt ff bJ bL;have TX:=hid (dD.o j _ bL);have dZ:=hid (bD.o j hj);have aI:=dE.o tt (An bJ);have dB:=hid (dG.o tt (An bJ));have cC:=hid (bC.o _ (An bL));obtain⟨tA,tn,tc,tl⟩:=tt;dsimp only at d0 aI aM dB;subst aM;have eC:=hid aI;have aA:=hid (Rv tA tn tc ny nk (some ⟨gs,0,none⟩) i i (namesP P) bP.o wr (aI.1.on aT.o) aI.2.1 (by omega) bW ⟨by unfold namesP;rw[Bi];exact aJ.o.1,aB.o.names.rd⟩ dB.o (HT.o.on aT.o));obtain⟨sv,aC⟩:∃ s,s=bsOf (txN (nmP (namesP P)) ny (txX (nmP (namesP P)) nk false)):=⟨_,rfl⟩;rw[<- aC] at aA;rw[Zy] at TX cC;clear ck dT bJ bL aI bW;go_wp2_with fail;refine aA.o.mono ?_;rintro e w6⟨rfl,cX⟩;have cV:=bl1 w6 (.cells #[.string ⟨#[116,97,98,108,101]⟩,.string sv] 9);have aP:=hid ((aB.o.below cX).below cV);have cR:OwnV 9 1 (w6.alloc (.cells #[.string ⟨#[116,97,98,108,101]⟩,.string sv] 9)) w6.heap.size (some ⟨w6.heap.size,0,none⟩) 2 2 ([wTable,txN (nmP (namesP P)) ny (txX (nmP (namesP P)) nk false)].flatMap sc):=by
   have h:=D7 w6 9 1 w6.heap.size #[.string ⟨#[116,97,98,108,101]⟩,.string sv] 2 rfl (Ag _) (by unfold maxLen;omega);rw[aC] at h |-;exact h
  have aF:=hid (M4 cR rfl (by omega) (by have h:=cC.o;rw[Aa] at h;omega));obtain⟨su,bT⟩:∃ s,s=bsOf (joinB 32 [wTable,txN (nmP (namesP P)) ny (txX (nmP (namesP P)) nk false)]++[10]):=⟨_,rfl⟩;rw[<- bT] at aF;have eD:=hid bT;clear cX cV cR aC bT aA aB;go_wp2_with fail;refine aF.o.mono ?_;rintro e w7⟨rfl,aO⟩;have aE:=hid (aP.o.below aO);clear aO aF aP;go_wp2_with (at_builtin;go_loud (refine I6 rfl (.tmp 56) (.tmp 61) rfl W0.heap.size D (TF j).length d (TF j) rfl aE.o.lines su _ rfl eD.o (by have h1:=dZ.o;have h2:=cC.o;omega) aE.o.on.size (TF (j+1)).length (by rw[TX.o];exact Aa.symm) (TF (j+1)) TX.o.symm ?_;intro A8 c8 w8 aL aN));have bG:=hid (aE.o.app aL aN);clear aL aN;go_roundw
  case rel=>exact⟨j+1,A8,c8,by omega,by go_num,rfl,bG.o⟩
  simp[intOf];omega
 have dQ:¬ (j:Int) < (n3:Int):=by omega
 obtain rfl:j=n3:=by omega
 have aD:=aB.o;have eG:=R5 aD.lines;go_wp2;go_ret;exact Ans.mk (congrArg (fun l=>Value.string (bsOf l)) aU.o.symm) (HW.o _ aD.on)
namespace Txt
theorem numL_m{m:Nat}:∀(s:List UInt8) (n:Nat) (x:Nat×List UInt8),n<=m->numL m n s=some x->x.1<=m
 | [],n,x,hn,h=>by
  unfold numL at h
  split at h
  ·cases h
  ·injection h with h;rw[<- h];exact hn
 | c::s,n,x,hn,h=>by
  rw[numL_cons] at h
  split at h
  ·split at h
   ·cases h
   ·exact numL_m s _ x (by omega) h
  ·split at h
   ·cases h
   ·injection h with h;rw[<- h];exact hn
theorem numS_m{m:Nat}{s:List UInt8}{x:Nat×List UInt8}(h:numS m s=some x):x.1<=m:=by
 cases s with
 | nil=>cases h
 | cons c r =>
  rw[numS_cons] at h;split at h
  ·injection h with h;rw[<- h];exact Cr _
  exact numL_m _ _ _ (Cr _) h
theorem numZ_m{m:Nat}{s:List UInt8}{x:Int×List UInt8}(h:numZ m s=some x):0<=x.1/\x.1<=m:=by
 unfold numZ at h;cases e:numS m s with
 | none=>rw[e] at h;cases h
 | some y =>
  rw[e] at h;injection h with h;have:=numS_m e;rw[<- h];show 0<=(y.1:Int)/\(y.1:Int)<=m;omega
theorem chanS_max{N:List (List UInt8)}{s:List UInt8}{z:ChV×List UInt8}(h:chanS N s=some z):0<=z.1.max/\z.1.max<=lim32:=by
 unfold chanS at h;obtain⟨s1,_,h⟩:=Aw.1 h;obtain⟨a,_,h⟩:=Aw.1 h;obtain⟨s2,_,h⟩:=Aw.1 h;obtain⟨b,_,h⟩:=Aw.1 h;obtain⟨s3,_,h⟩:=Aw.1 h;obtain⟨k,_,h⟩:=Aw.1 h;obtain⟨s4,_,h⟩:=Aw.1 h;obtain⟨m,hm,h⟩:=Aw.1 h;obtain⟨s5,_,h⟩:=Aw.1 h;obtain⟨l,_,h⟩:=Aw.1 h;injection h with h;rw[<- h];exact numZ_m hm
theorem kids_cnt{f:Nat->List UInt8->Option (List Nd×List UInt8)}(hf:Rds f):∀(k rm:Nat) (s:List UInt8) (y:List Nd×Nat×List UInt8),kidsR f k rm s=some y->y.2.1<=y.1.length
 | 0,_,_,_,h=>by cases h
 | k+1,rm,s,y,h=>by
  rw[kidsR_succ] at h
  split at h
  ·injection h with h;rw[<- h];exact Ag _
  ·split at h
   ·cases h
   ·rename_i x hx
    split at h
    ·cases h
    ·rename_i z hz
     injection h with h
     have h1:=kids_cnt hf k _ _ _ hz
     have h2:=(hf _ _ _ hx).2.2
     rw[<- h]
     show z.2.1+1<=(x.1++z.1).length
     rw[Aa]
     omega
theorem kids_in{f:Nat->List UInt8->Option (List Nd×List UInt8)}(hf:∀ rm s x,f rm s=some x->∀ z∈x.1,NdIn z):∀(k rm:Nat) (s:List UInt8) (y:List Nd×Nat×List UInt8),kidsR f k rm s=some y->∀ z∈y.1,NdIn z
 | 0,_,_,_,h=>by cases h
 | k+1,rm,s,y,h=>by
  rw[kidsR_succ] at h
  split at h
  ·injection h with h;rw[<- h];intro z hz;cases hz
  ·split at h
   ·cases h
   ·rename_i x hx
    split at h
    ·cases h
    ·rename_i v hv
     injection h with h
     rw[<- h]
     intro z hz
     rcases Ay.1 hz with hz | hz
     ·exact hf _ _ _ hx z hz
     ·exact kids_in hf k _ _ _ hv z hz
theorem nodeS_in{whose:List UInt8->Option (Int×List UInt8)}(hw:∀ s p,whose s=some p->p.2.length<=s.length)(hi:∀ s p,whose s=some p->Ef p.1):∀ lv rm s x,rm<=128->nodeS whose lv rm s=some x->∀ z∈x.1,NdIn z:=by
 have aB:∀(k p:Int) (s:List UInt8) (v:Nat×List UInt8),Ef k->Ef p->numS lim40 s=some v->NdIn ⟨k,p,v.1⟩:=fun k p s v hk hp h=>⟨hk,hp,by have:=numS_m h;unfold lim40 at this;unfold Ef;dsimp only;omega⟩;intro lv;induction lv with
 | zero=>intro rm s x _ h;cases h
 | succ lv ih =>
  intro rm s x aI h;cases rm with
  | zero=>cases h
  | succ rm =>
   cases s with
   | nil=>cases h
   | cons c s =>
    change stepS whose (nodeS whose lv) (rm+1) (c::s)=some x at h;rw[stepS_cons] at h;have aC:∀ aA s' x',aA<=128->nodeS whose lv aA s'=some x'->∀ z∈x'.1,NdIn z:=fun aA s' x' h1 h2=>ih aA s' x' h1 h2;split at h
    ·unfold winS at h;split at h
     ·cases h
     rename_i p hp;split at h
     ·cases h
     rename_i r hr;cases hn:numS lim40 r with
     | none=>rw[hn] at h;cases h
     | some v =>
      rw[hn] at h;injection h with h;rw[<- h];intro z hz;rw[Cc.1 hz];exact aB 1 p.1 r v ⟨by decide,by decide⟩ (hi _ _ hp) hn
    split at h
    ·cases hn:numS lim40 s with
     | none=>rw[hn] at h;cases h
     | some v =>
      rw[hn] at h;injection h with h;rw[<- h];intro z hz;rw[Cc.1 hz];exact aB 2 0 s v ⟨by decide,by decide⟩ ⟨by decide,by decide⟩ hn
    split at h
    ·have hf:∀ aA s' x',(fun r t=>if r<=128 then nodeS whose lv r t else none) aA s'=some x'->∀ z∈x'.1,NdIn z:=fun aA s' x' h2=>by
      dsimp only at h2;split at h2
      ·exact aC aA s' x' ‹_› h2
      cases h2
     have aH:=(seqT_len (nodeS_rds hw lv) h);unfold seqT at h;split at h
     ·cases h
     split at h
     ·cases h
     rename_i y hy;split at h
     ·cases h
     rename_i v hv;cases aD:takeB 41 v.2.2 with
     | none=>rw[aD] at h;cases h
     | some s4 =>
      rw[aD] at h;injection h with h;have hc:=kids_cnt (nodeS_rds hw lv) _ _ _ _ hv;have aG:x.1.length=y.1.length+v.1.length+1:=by rw[<- h];show (y.1++v.1).length+1=_;rw[Aa]
      have hk:∀(k aA:Nat) (s':List UInt8) (u:List Nd×Nat×List UInt8),aA<=128->kidsR (nodeS whose lv) k aA s'=some u->∀ z∈u.1,NdIn z:=by
       intro k;induction k with
       | zero=>intro aA s' u _ h5;cases h5
       | succ k aE =>
        intro aA s' u aF h5;rw[kidsR_succ] at h5;split at h5
        ·injection h5 with h5;rw[<- h5];intro z hz;cases hz
        split at h5
        ·cases h5
        rename_i q hq;split at h5
        ·cases h5
        rename_i t ht;injection h5 with h5;rw[<- h5];intro z hz;rcases Ay.1 hz with hz | hz
        ·exact aC _ _ _ aF hq z hz
        exact aE _ _ _ (by omega) ht z hz
      rw[<- h];intro z hz;rcases Ba.1 hz with rfl | hz
      ·exact⟨by unfold Ef;dsimp only;omega,by unfold Ef;dsimp only;omega,by unfold Ef;dsimp only;omega⟩
      rcases Ay.1 hz with hz | hz
      ·exact aC _ _ _ (by omega) hy z hz
      exact hk _ _ _ _ (by omega) hv z hz
    split at h
    ·unfold repS at h;split at h
     ·cases h
     rename_i v hv;split at h
     ·cases h
     split at h
     ·cases h
     rename_i y hy;cases h5:takeB 41 y.2 with
     | none=>rw[h5] at h;cases h
     | some s4 =>
      rw[h5] at h;injection h with h;rw[<- h];intro z hz;rcases Ba.1 hz with rfl | hz
      ·exact aB 4 0 _ v ⟨by decide,by decide⟩ ⟨by decide,by decide⟩ hv
      exact aC _ _ _ (by omega) hy z hz
    cases h
theorem knownS_in{N:List (List UInt8)}{b:UInt8}{s:List UInt8}{p:Int×List UInt8}(hN:N.length<=1048576)(h:knownS N b s=some p):Ef p.1:=by
 unfold knownS at h;split at h
 ·cases h
 injection h with h;rw[<- h];rcases Jo N (aheadT (isB b) s) with h1 | ⟨h1,h2⟩
 ·exact⟨by dsimp only;omega,by dsimp only;omega⟩
 rename_i h3;rw[h2] at h3;exact absurd (by decide) h3
end Txt
theorem jn(a:ByteArray)(l:List UInt8)(hl:(bsOf l).toList=l):(a.toList == l)=decide (a=bsOf l):=by
 have:=Et (a:=a) (b:=bsOf l) rfl;rwa [hl] at this
theorem Hb(d l:List UInt8)(hl:(bsOf l).toList=l):((bsOf d).toList == l)=decide (d=l):=by
 rw[jn _ _ hl];by_cases h:d=l
 ·rw[Ae h,h];exact Ae rfl
 rw[Ac h];exact Ac fun e=>h (Lr e)
structure LnS(B Br g gc b2 b3:Nat)(x:Cf)(w:World)(st:Option (List UInt8))(W:World):Prop where
 rd:Qce Br g st W
 cv:CvS B gc x W
 k2:W.cell? ⟨b2,0,none⟩=some (.pointer (some ⟨g,0,none⟩))
 k3:W.cell? ⟨b3,0,none⟩=some (.pointer (some ⟨gc,0,none⟩))
 gb:w.grownBy W (some g)
 l2:w.heap.size<=b2/\b2 < W.heap.size
 l3:w.heap.size<=b3/\b3 < W.heap.size
 lg:g < w.heap.size/\gc < w.heap.size
 la:∀ k,obk x.A1=some k\/obk x.A2=some k\/obk x.A3=some k->k < w.heap.size
theorem LnS.step{B Br g gc b2 b3:Nat}{x:Cf}{w W W':World}{st st':Option (List UInt8)}(h:LnS B Br g gc b2 b3 x w st W)(k:Rpo Br g st' W W'):LnS B Br g gc b2 b3 x w st' W' :=
 have:=h.l2
 have:=h.l3
 have:=h.lg
 ⟨k.rd,h.cv.rdr h.rd k.gb,by rw[Er (k.gb.block b2 (by omega) (by intro e;injection e with e;omega))];exact h.k2,by rw[Er (k.gb.block b3 (by omega) (by intro e;injection e with e;omega))];exact h.k3,Ha h.gb k.gb,⟨by omega,Bc h.l2.2 k.gb.size⟩,⟨by omega,Bc h.l3.2 k.gb.size⟩,h.lg,h.la⟩
theorem LnS.start{B Br g gc:Nat}{x:Cf}{w:World}{st:Option (List UInt8)}(h:Qce Br g st w)(hc:CvS B gc x w):LnS B Br g gc w.heap.size (w.heap.size+1) x w st ((w.alloc (.cells #[.pointer (some ⟨g,0,none⟩)] 77)).alloc (.cells #[.pointer (some ⟨gc,0,none⟩)] 83)):=by
 have b1:=bl1 w (.cells #[.pointer (some ⟨g,0,none⟩)] 77);have hz:(w.alloc (.cells #[.pointer (some ⟨g,0,none⟩)] 77)).heap.size=w.heap.size+1:=by simp
 have c2:(w.alloc (.cells #[.pointer (some ⟨g,0,none⟩)] 77)).cell? ⟨w.heap.size,0,none⟩=some (.pointer (some ⟨g,0,none⟩)):=Ab _ _ _ _ _;generalize w.alloc (.cells #[.pointer (some ⟨g,0,none⟩)] 77)=W1 at b1 hz c2 |-;have b2:=bl1 W1 (.cells #[.pointer (some ⟨gc,0,none⟩)] 83);have aA:(W1.alloc (.cells #[.pointer (some ⟨gc,0,none⟩)] 83)).heap.size=w.heap.size+2:=by simp[hz]
 have c3:(W1.alloc (.cells #[.pointer (some ⟨gc,0,none⟩)] 83)).cell? ⟨W1.heap.size,0,none⟩=some (.pointer (some ⟨gc,0,none⟩)):=Ab _ _ _ _ _;rw[hz] at c3;refine⟨OwnV.below (OwnV.below h rfl b1) rfl b2,(hc.on b1).on b2,?_,c3,Ho (b1.trans (b2.mono b1.size)),⟨Ag _,by omega⟩,⟨by omega,by omega⟩,⟨h.cells.2.2.2.2.2,(OwnV.obk_ge hc.s.cf (b:=gc) rfl).2⟩,fun k hk=>?_⟩
 ·rw[Er (b2.block w.heap.size (by omega))];exact c2
 rcases hk with hk | hk | hk
 ·exact OwnV.older hc.s.pp.own hk
 ·exact OwnV.older hc.s.ch.own hk
 exact OwnV.older hc.s.tb.own hk
theorem LnS.kpl{B Br g gc b2 b3:Nat}{x:Cf}{w W:World}{st:Option (List UInt8)}(h:LnS B Br g gc b2 b3 x w st W):KpL g gc x w W:=KpL.of (KpG.gb (A:=x.A1) h.gb) (.inl rfl)
theorem LnS.same{B Br g gc b2 b3:Nat}{x:Cf}{c:Cft}{w W:World}{st:Option (List UInt8)}{R:Option (Cft×List UInt8)}(h:LnS B Br g gc b2 b3 x w st W)(hx:Ctn x c)(hR:R=some (c,[])/\st=some []\/R=none/\st=none):kj B Br g gc R x w (.returned (.tuple #[])) W:=by
 rcases hR with ⟨rfl,rfl⟩ | ⟨rfl,rfl⟩
 ·exact⟨rfl,some [],rfl,h.rd,h.kpl,fun c' r e=>by injection e with e;injection e with e1 e2;subst e1;exact⟨x,h.cv,hx,by omega⟩⟩
 exact⟨rfl,none,rfl,h.rd,h.kpl,fun c' r e=>by cases e⟩
theorem fq{s:List UInt8}(h0:s≠[])(h:s.head? = some 35):∃ r,(some s).bind (takeB 35)=some r:=by
 cases s with
 | nil=>exact absurd rfl h0
 | cons c r=>injection h with h;subst h;exact⟨r,takeB_self 35 r⟩
theorem Zu{s:List UInt8}(h:s.head?≠some 35):(some s).bind (takeB 35)=none:=by
 cases s with
 | nil=>rfl
 | cons c r=>exact takeB_ne (fun e=>h (by rw[e];rfl)) r
