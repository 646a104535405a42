import Derived.Test.YtfmndmhjjbeokaaGreatDoorLow27
import Derived.OpenShut
import Derived.Deep.RegionWith
set_option maxHeartbeats 4000000
set_option maxRecDepth 100000
set_option linter.unusedSimpArgs false
set_option linter.unusedVariables false
namespace Go.Proofs.YtfmndmhjjbeokaaGreatDoor
open Go.RowKit Tab
theorem cu(W:List Int)(p q:Int):-1<=D9 W p q:=by
 unfold D9;split
 ·omega
 split <;> omega
theorem ju(A:Option Addr)(n c:Nat)(L:List Rn)(xf xt:Int)(xq:Bool)(xc xm xl:Int)(w:World)(h:RdR w w.heap.size A n L)(hc:n<=c)(hn:n<=1048576)(ht:ticks L<=1099511627776):
  Calls Tryz.prog 142 #[.slice A n c,.agg #[.int .i64 xf,.int .i64 xt,.bool xq,.int .i64 xc,.int .u32 xm,.int .i64 xl]] w (Ans (.bool (decide (D9 (Dx L) xf xt < 0) || decide (xl < D9 (Dx L) xf xt))) w):=by
 have aB:=bl1 w (.cells #[.int .i64 xf,.int .i64 xt,.bool xq,.int .i64 xc,.int .u32 xm,.int .i64 xl] 66);have aD:=hid (Zi A n c L xf xt _ (h.on aB) hc hn ht);have aI:=cu (Dx L) xf xt;have aF:=hid aB;generalize D9 (Dx L) xf xt=z at aD aI |-;clear aB h;go_in;go_wp2_with fail;refine aD.o.mono ?_;rintro e w5⟨rfl,aC⟩;have e5:w5.cell? ⟨w.heap.size,5,none⟩=some (.int .i64 xl):=(aC.cell (p:=⟨w.heap.size,5,none⟩) (by simp)).trans (Ab _ _ _ _ _);have aE:=hid (aF.o.trans (aC.mono aF.o.size));generalize w.heap.size=gx at e5 |-;clear aC aD aF;by_cases t2:z=-1
 ·subst t2;go_wp2;go_ret;exact Ans.mk rfl aE.o
 have u2:(z == -1)=false:=Ak.2 t2;have u4:decide (z < 0)=false:=Ac (by omega);have aH:=hid u4;obtain⟨bb,aG⟩:∃ bb,bb=decide (xl < z):=⟨_,rfl⟩;have aA:=hid aG;clear aG;cases bb with
 | true =>
  have u3:decide (xl < z)=true:=aA.o.symm;go_wp2;go_ret;exact Ans.mk (by rw[aH.o,Bool.false_or,<- aA.o];rfl) aE.o
 | false =>
  have u3:decide (xl < z)=false:=aA.o.symm;go_wp2;go_ret;exact Ans.mk (by rw[aH.o,Bool.false_or,<- aA.o];rfl) aE.o
theorem Vw(A1 A2 A3 A4:Option Addr)(n1 n2 n3 n4 c1 c2 c3 c4:Nat)(P:List PtV)(C:List ChV)(L:List Rn)(w:World)(hP:RdB pcl w w.heap.size A1 n1 P)(hC:RdB cc w w.heap.size A2 n2 C)(hL:RdR w w.heap.size A4 n4 L)
  (q1:n1<=1048576) (q2:n2<=1048576) (q4:n4<=c4) (q5:n4<=1048576) (ht:ticks L<=1099511627776) (hz:∀ x∈P,Ef x.per) :
  Calls Tryz.prog 126 #[.agg #[.slice A1 n1 c1,.slice A2 n2 c2,.slice A3 n3 c3],.slice A4 n4 c4] w (Ans (.int .i64 (E4 (Dx L) P C)) w):=by
 have aD:=bl1 w (.cells #[.slice A1 n1 c1,.slice A2 n2 c2,.slice A3 n3 c3] 31);have bF:=hP.on aD;have bH:=hC.on aD;have aV:=hL.on aD;have m0:(w.alloc (.cells #[.slice A1 n1 c1,.slice A2 n2 c2,.slice A3 n3 c3] 31)).cell? ⟨w.heap.size,0,none⟩=some (.slice A1 n1 c1):=Ab _ _ _ _ _;have aP:w.heap.size < (w.alloc (.cells #[.slice A1 n1 c1,.slice A2 n2 c2,.slice A3 n3 c3] 31)).heap.size:=by simp
 have HZ:=hid hz;obtain⟨R,hR⟩:∃ R,R=E4 (Dx L) P C:=⟨_,rfl⟩;rw[<- hR];obtain⟨X,hX⟩:∃ X,X=Dx L:=⟨_,rfl⟩;rw[<- hX] at hR;have HR:=hid hR;have HX:=hid hX;have bE:=hP.len;have bG:=hC.len;have bN:=hid bE;have bP:=hid bG;clear hP hC hL hz hR hX bE bG;go_in;go_wp2_with fail;generalize w.alloc (.cells #[.slice A1 n1 c1,.slice A2 n2 c2,.slice A3 n3 c3] 31)=W at aD bF bH aV m0 aP |-;obtain⟨g,hg⟩:∃ g,g=w.heap.size:=⟨_,rfl⟩;rw[<- hg] at m0 aP |-;have HG:=hid hg;have bO:=hid m0;clear hg m0;go_loopw [6,12] (fun _ s wr=>∃ i:Nat,i<=n2/\s=.int .i64 i/\(C.take i).any (Ew X)=false/\Below W.heap.size W wr) (fun _ s _=>n2 - (intOf s).toNat)
 case atStart=>exact⟨0,by omega,rfl,rfl,Aj _ _⟩
 obtain⟨i,hi,rfl,aK,hb⟩:=hrel;have aE:=hid aK;clear aK;by_cases aO:i < n2
 ·obtain⟨ad,x,rfl,bD,hx,c0,ck⟩:=(bH.on hb).at_ Gk (by omega) aO;have d0:=c0 _ rfl;have d1:=ck 1 _ (by omega) rfl;have d2:=ck 2 _ (by omega) rfl;have d3:=ck 3 _ (by omega) rfl;have d4:=ck 4 _ (by omega) rfl;have d5:=ck 5 _ (by omega) rfl;have aG:=hid (Tl (Ew X) hx);have aY:=hid (W6 (Ew X) hx);obtain⟨xf,xt,xq,xc,xm,xl⟩:=x;dsimp only at d0 d1 d2 d3 d4 d5;have aJ:=bl1 wr (.cells #[.int .i64 xf,.int .i64 xt,.bool xq,.int .i64 xc,.int .u32 xm,.int .i64 xl] 66);have aH:=hb.trans (aJ.mono hb.size);have aL:=hid (ju A4 n4 c4 L xf xt xq xc xm xl _ (aV.on aH) q4 q5 ht);have aC:=hid aH;clear c0 ck hx aJ aH;rw[<- HX.o] at aL;have aR:Ew X ⟨xf,xt,xq,xc,xm,xl⟩=(decide (0 < xl) && (decide (D9 X xf xt < 0) || decide (xl < D9 X xf xt))):=rfl;generalize (decide (D9 X xf xt < 0) || decide (xl < D9 X xf xt))=z at aR aL;have aI:=hid aR;clear aR;by_cases t1:0 < xl
  ·have u1:decide (0 < xl)=true:=Ae t1;go_wp2_with fail;refine aL.o.mono ?_;rintro e w5⟨rfl,aB⟩;have bL:=hid (aC.o.trans (aB.mono aC.o.size));clear aB aL aC d0 d1 d2 d3 d4 d5;cases z with
   | true =>
    have aA:R=19:=by
     rw[HR.o];exact Ji (aY.o (by rw[aI.o,u1];rfl))
    subst aA;go_wp2;go_ret;exact Ans.mk rfl (aD.trans (bL.o.mono aD.size))
   | false =>
    have HN:Hd ((C.take (i+1)).any (Ew X)=false):=hid (by rw[aG.o,aE.o,aI.o,u1];rfl);go_wp2;go_roundw
    case rel=>exact⟨i+1,by omega,by go_num,HN.o,bL.o⟩
    simp[intOf];omega
  have u1:decide (0 < xl)=false:=Ac t1;have HN:Hd ((C.take (i+1)).any (Ew X)=false):=hid (by rw[aG.o,aE.o,aI.o,u1];rfl);clear aL;go_wp2;go_roundw
  case rel=>exact⟨i+1,by omega,by go_num,HN.o,aC.o⟩
  simp[intOf];omega
 have aQ:n2<=i:=by omega
 have aM:Hd (C.any (Ew X)=false):=hid (by
  have h:=aE.o;rw[Bd (by rw[bP.o];exact aQ)] at h;exact h)
 clear aE;have m0:=(hb.cell (p:=⟨g,0,none⟩) aP).trans bO.o;go_wp2;go_loopw [7,8,28] (fun _ _ s wx=>∃ j:Nat,j<=n1/\s=.int .i64 j/\Ev X 0 (P.take j)=false/\Below W.heap.size W wx) (fun _ _ s _=>n1 - (intOf s).toNat)
 case atStart=>exact⟨0,by omega,rfl,rfl,hb⟩
 obtain⟨j,hj,rfl,bB,hb⟩:=hrel;have aX:=hid bB;clear bB;by_cases aO:j < n1
 ·obtain⟨ad,x,rfl,bD,hx,c0,ck⟩:=(bF.on hb).at_ Hn (by omega) aO;have d0:=c0 _ rfl;have d1:=ck 1 _ (by omega) rfl;have d2:=ck 2 _ (by omega) rfl;have d3:=ck 3 _ (by omega) rfl;have d4:=ck 4 _ (by omega) rfl;have d5:=ck 5 _ (by omega) rfl;have d6:=ck 6 _ (by omega) rfl;have d7:=ck 7 _ (by omega) rfl;have d8:=ck 8 _ (by omega) rfl;have d9:=ck 9 _ (by omega) rfl;have bI:=ck 10 _ (by omega) rfl;have bA:=HZ.o x (An hx);have bJ:=hid (Ig (W:=X) hx);have bM:=hid (L4 (W:=X) hx);obtain⟨nm,bu,pe,sc,st,pa,pn,pc,h0,h1,h2,h3,h4⟩:=x;dsimp only at d0 d1 d2 d3 d4 d5 d6 d7 d8 d9 bI bA;have aJ:=bl1 wr (.cells #[.string nm,.int .i64 bu,.int .i64 pe,.bool sc,.bool st,.slice pa pn pc,.int .i64 h0,.int .i64 h1,.int .i64 h2,.int .i64 h3,.int .i64 h4] 60);have aH:=hb.trans (aJ.mono hb.size);have f1:(wr.alloc (.cells #[.string nm,.int .i64 bu,.int .i64 pe,.bool sc,.bool st,.slice pa pn pc,.int .i64 h0,.int .i64 h1,.int .i64 h2,.int .i64 h3,.int .i64 h4] 60)).cell? ⟨wr.heap.size,1,none⟩=some (.int .i64 bu):=Ab _ _ _ _ _;have f2:(wr.alloc (.cells #[.string nm,.int .i64 bu,.int .i64 pe,.bool sc,.bool st,.slice pa pn pc,.int .i64 h0,.int .i64 h1,.int .i64 h2,.int .i64 h3,.int .i64 h4] 60)).cell? ⟨wr.heap.size,2,none⟩=some (.int .i64 pe):=Ab _ _ _ _ _;have aN:wr.heap.size < (wr.alloc (.cells #[.string nm,.int .i64 bu,.int .i64 pe,.bool sc,.bool st,.slice pa pn pc,.int .i64 h0,.int .i64 h1,.int .i64 h2,.int .i64 h3,.int .i64 h4] 60)).heap.size:=by simp
  clear c0 ck hx aJ;go_wp2_with fail;generalize wr.alloc (.cells #[.string nm,.int .i64 bu,.int .i64 pe,.bool sc,.bool st,.slice pa pn pc,.int .i64 h0,.int .i64 h1,.int .i64 h2,.int .i64 h3,.int .i64 h4] 60)=W2 at aH f1 f2 aN |-;generalize wr.heap.size=gx at f1 f2 aN |-;have aC:=hid aH;clear d0 d1 d2 d3 d4 d5 d6 d7 d8 d9 bI aH bD;by_cases bC:0 < bu
  ·have aT:decide (0 < bu)=true:=Ae bC;have aZ:Hd (Calls Tryz.prog 143 #[.slice A4 n4 c4,.int .i64 (j:Int),.int .i64 pe] W2.drew fun e w5=>e=.returned (.int .i64 (Fr (Dx L) (j:Int) pe))/\Below W2.heap.size W2 w5/\w5.cell? ⟨gx,1,none⟩=some (.int .i64 bu)/\w5.cell? ⟨gx,2,none⟩=some (.int .i64 pe)):=hid (by
    refine(Tj A4 n4 c4 L (j:Int) pe W2.drew ((aV.on aC.o).below (Aj _ _).drew) q4 q5 ht bA).mono ?_;rintro e w5⟨rfl,aB⟩;have aU:Below W2.heap.size W2 w5:=⟨aB.os,aB.tape,aB.output,aB.size,aB.block⟩;exact⟨rfl,aU,(aU.cell (p:=⟨gx,1,none⟩) aN).trans f1,(aU.cell (p:=⟨gx,2,none⟩) aN).trans f2⟩)
   rw[<- HX.o] at aZ;have aF:Fb X j ⟨nm,bu,pe,sc,st,pa,pn,pc,h0,h1,h2,h3,h4⟩=(decide (0 < bu) && decide (Fr X (j:Int) pe < bu)):=rfl;generalize Fr X (j:Int) pe=z at aZ aF;rw[aT,Bool.true_and] at aF;have bK:=hid aF;clear aF;go_region_with (go_at_call 143;refine aZ.o.mono ?_;rintro e w5⟨rfl,aB,g1,g2⟩)
   all_goals
    by_cases t2:z < bu
    ·have u2:decide (z < bu)=true:=Ae t2;have aA:R=20:=by
      rw[HR.o];exact Ll aM.o (bM.o (by rw[bK.o];exact u2))
     subst aA;go_wp2;go_ret;exact Ans.mk rfl (aD.trans ((aC.o.trans (aB.mono aC.o.size)).mono aD.size))
    have u2:decide (z < bu)=false:=Ac t2;have HN:Hd (Ev X 0 (P.take (j+1))=false):=hid (by rw[bJ.o,aX.o,bK.o,u2];rfl);go_wp2;go_roundw
    case rel=>exact⟨j+1,by omega,by go_num,HN.o,aC.o.trans (aB.mono aC.o.size)⟩
    simp[intOf];omega
  have aT:decide (0 < bu)=false:=Ac bC;have aF:Fb X j ⟨nm,bu,pe,sc,st,pa,pn,pc,h0,h1,h2,h3,h4⟩=(decide (0 < bu) && decide (Fr X (j:Int) pe < bu)):=rfl;rw[aT,Bool.false_and] at aF;have HN:Hd (Ev X 0 (P.take (j+1))=false):=hid (by rw[bJ.o,aX.o,aF];rfl);clear aF;go_quiet (fail);go_wp2;go_roundw
  case rel=>exact⟨j+1,by omega,by go_num,HN.o,Below.drewN aC.o nq⟩
  simp[intOf];omega
 have aQ:n1<=j:=by omega
 have aA:R=0:=by
  rw[HR.o];refine Mc aM.o ?_;have h:=aX.o;rw[Bd (by rw[bN.o];exact aQ)] at h;exact h
 subst aA;go_wp2;go_ret;exact Ans.mk rfl (aD.trans (hb.mono aD.size))
def paF(P:List Pq)(x:Pq):Int:=if (!nameF x.1.name || P.any (fun y=>decide (y.1.name=x.1.name)))=true then 15 else if Fg x.1 x.2=true then 0 else 16
theorem ia(P:List Pq)(i:Nat)(x:Pq):paF (P.take i) x=ptW P i x:=rfl
theorem gm(x:Pq)(A:Option Addr)(n c:Nat)(P:List Pq)(w:World)(hx:RdB prc w w.heap.size x.1.pa x.1.pn x.2)(hs:x.1.name.size<=140737488351232)(hP:RdB pcq w w.heap.size A n P)(hn:n<=1048576):
  Calls Tryz.prog 94 #[pv x.1,.slice A n c] w (Ans (.int .i64 (paF P x)) w):=by
 have HV:Hd (paF P x=if (!nameF x.1.name || P.any (fun y=>decide (y.1.name=x.1.name)))=true then 15 else if (psF x.1.pn x.2 && ((List.range 5).all (fun j=>hlF (hv5 x.1 j)) && pbF x.1.bud x.1.per))=true then 0 else 16):=hid (by unfold paF;rw[Sm]);generalize paF P x=v at HV |-;have aN:=hid fun V=>ca x.1.name V hs;have aO:=hid fun V (hv:Below w.heap.size w V)=>Ym A n c P x.1.name V (hP.on hv) hn;have aL:=hid fun V (hv:Below w.heap.size w V)=>Yc x.1.pa x.1.pn x.1.pc x.2 V (hx.on hv);have aK:=hid fun V=>Vi (hv5 x.1) V;have aM:=hid fun V=>bo x.1.bud x.1.per V;generalize nameF x.1.name=q1 at aN HV;generalize (P.any fun y=>decide (y.1.name=x.1.name))=q2 at aO HV;generalize psF x.1.pn x.2=q3 at aL HV;generalize (List.range 5).all (fun j=>hlF (hv5 x.1 j))=q4 at aK HV;generalize pbF x.1.bud x.1.per=q5 at aM HV;obtain⟨⟨nm,bu,pe,sc,st,pa,pn,pc,h0,h1,h2,h3,h4⟩,L⟩:=x;dsimp only at aN aO aL aM;have aK:Hd (∀ V,Calls Tryz.prog 122 #[.agg #[.int .i64 h0,.int .i64 h1,.int .i64 h2,.int .i64 h3,.int .i64 h4]] V (Ans (.bool q4) V)):=aK;have aF:=bl1 w (.cells #[.string nm,.int .i64 bu,.int .i64 pe,.bool sc,.bool st,.slice pa pn pc,.int .i64 h0,.int .i64 h1,.int .i64 h2,.int .i64 h3,.int .i64 h4] 60);have HC:Hd (∀ o v,(#[Value.string nm,.int .i64 bu,.int .i64 pe,.bool sc,.bool st,.slice pa pn pc,.int .i64 h0,.int .i64 h1,.int .i64 h2,.int .i64 h3,.int .i64 h4]:Array Value)[o]? = some v->(w.alloc (.cells #[.string nm,.int .i64 bu,.int .i64 pe,.bool sc,.bool st,.slice pa pn pc,.int .i64 h0,.int .i64 h1,.int .i64 h2,.int .i64 h3,.int .i64 h4] 60)).cell? ⟨w.heap.size,o,none⟩=some v):=hid fun o v hv=>(Ab _ _ _ _ _).trans hv;have aE:w.heap.size < (w.alloc (.cells #[.string nm,.int .i64 bu,.int .i64 pe,.bool sc,.bool st,.slice pa pn pc,.int .i64 h0,.int .i64 h1,.int .i64 h2,.int .i64 h3,.int .i64 h4] 60)).heap.size:=by simp
 clear hx hs hP hn;go_in;go_upto_region 1 with fail;generalize w.alloc (.cells #[.string nm,.int .i64 bu,.int .i64 pe,.bool sc,.bool st,.slice pa pn pc,.int .i64 h0,.int .i64 h1,.int .i64 h2,.int .i64 h3,.int .i64 h4] 60)=W at aF HC aE |-;obtain⟨g,hg⟩:∃ g,g=w.heap.size:=⟨_,rfl⟩;rw[<- hg] at HC aE |-;have HG:=hid hg;have HM:=hid fun(W':World) (hb:Below W.heap.size W W') (o:Nat) (v:Value) (hv:(#[Value.string nm,.int .i64 bu,.int .i64 pe,.bool sc,.bool st,.slice pa pn pc,.int .i64 h0,.int .i64 h1,.int .i64 h2,.int .i64 h3,.int .i64 h4]:Array Value)[o]? = some v)=>(hb.cell (p:=⟨g,o,none⟩) aE).trans (HC.o o v hv);have HW:=hid fun(W':World) (hb:Below W.heap.size W W')=>aF.trans (hb.mono aF.size);have m0:=HM.o W (Aj _ _) 0 _ rfl;clear hg aF aE HC;go_wp2_with fail;refine(aN.o _).mono ?_;rintro e w1⟨rfl,aT⟩;have aD:=hid aT;clear m0 aT;have m0:=HM.o w1 aD.o 0 _ rfl;cases q1 with
 | false =>
  have E:Hd (v=15):=hid (by rw[HV.o];rfl);clear HV;go_wp2;go_ret;exact Ans.mk (by rw[E.o];rfl) (HW.o _ aD.o)
 | true =>
 have aJ:Hd (v=if q2=true then 15 else if (q3 && (q4 && q5))=true then 0 else 16):=hid HV.o;have HA:=aO.o w1 (HW.o _ aD.o);clear HV;go_wp2_with fail;refine HA.mono ?_;rintro e w2⟨rfl,aR⟩;have aC:=hid (aD.o.trans (aR.mono aD.o.size));clear m0 aR HA;cases q2 with
 | true =>
  have E:Hd (v=15):=hid (by rw[aJ.o];rfl);clear aJ;go_wp2;go_ret;exact Ans.mk (by rw[E.o];rfl) (HW.o _ aC.o)
 | false =>
 have aI:Hd (v=if (q3 && (q4 && q5))=true then 0 else 16):=hid aJ.o;have m5:=HM.o w2 aC.o 5 _ rfl;have HP:=aL.o w2 (HW.o _ aC.o);clear aJ;go_wp2_with fail;refine HP.mono ?_;rintro e w3⟨rfl,aQ⟩;have aA:=hid (aC.o.trans (aQ.mono aC.o.size));clear m5 aQ HP;cases q3 with
 | false =>
  have E:Hd (v=16):=hid (by rw[aI.o];rfl);clear aI;go_wp2;go_ret;exact Ans.mk (by rw[E.o];rfl) (HW.o _ aA.o)
 | true =>
 have aH:Hd (v=if (q4 && q5)=true then 0 else 16):=hid aI.o;have m6:=HM.o w3 aA.o 6 _ rfl;have m7:=HM.o w3 aA.o 7 _ rfl;have m8:=HM.o w3 aA.o 8 _ rfl;have m9:=HM.o w3 aA.o 9 _ rfl;have aU:=HM.o w3 aA.o 10 _ rfl;clear aI;go_wp2_with fail;refine(aK.o w3).mono ?_;rintro e w4⟨rfl,aP⟩;have aB:=hid (aA.o.trans (aP.mono aA.o.size));clear m6 m7 m8 m9 aU aP;cases q4 with
 | false =>
  have E:Hd (v=16):=hid (by rw[aH.o];rfl);clear aH;go_wp2;go_ret;exact Ans.mk (by rw[E.o];rfl) (HW.o _ aB.o)
 | true =>
 have aG:Hd (v=if q5=true then 0 else 16):=hid aH.o;have m1:=HM.o w4 aB.o 1 _ rfl;have m2:=HM.o w4 aB.o 2 _ rfl;clear aH;go_wp2_with fail;refine(aM.o w4).mono ?_;rintro e w5⟨rfl,rfl⟩;clear m1 m2;cases q5 with
 | false =>
  have E:Hd (v=16):=hid (by rw[aG.o];rfl);clear aG;go_wp2;go_ret;exact Ans.mk (by rw[E.o];rfl) (HW.o _ aB.o)
 | true =>
  have E:Hd (v=0):=hid (by rw[aG.o];rfl);clear aG;go_wp2;go_ret;exact Ans.mk (by rw[E.o];rfl) (HW.o _ aB.o)
theorem Qcz(t:NdT)(w:World)(h:Ls w w.heap.size t):Calls Tryz.prog 125 #[.slice t.A t.n t.c] w (OfG (ofF t.l).1 (ofF t.l).2 w):=by
 have hl:=h.rd.len;by_cases hb:128 < t.n
 ·have hn:¬ (3:Int)=0:=by decide
  rw[Wp (by rw[hl];exact hb)];refine(Oa t.A t.n t.c w _ ?_ hn).mono fun _ _ k=>So hn k;have aC:(128:Int) < (t.n:Int):=by omega
  clear h hl hb;go_in;go_wp2;go_ret;exact Ans.mk rfl (Aj _ _)
 by_cases hw:Eg t.l=true
 ·obtain⟨x,k,aB,he,e⟩:=Hz hw;rw[e];have hr:=h.rd;rw[he] at hr hl |-;rw[hl];exact li t.A t.n t.c x k w hr h.cap aB (by omega)
 have aA:Eg t.l=false:=by simpa using hw
 rw[Lc hw,hl];have hn:¬ rn t.n=0:=by unfold rn;split <;> omega
 exact(Oa t.A t.n t.c w _ (Uo t.A t.n t.c t.l w h.rd h.cap (by omega) aA) hn).mono fun _ _ k=>Sp hn k
theorem fo(A1 A2 A3:Option Addr)(n1 n2 n3 c1 c2 c3:Nat)(P:List Pq)(C:List ChV)(t:NdT)(w:World)(hP:RdB pcq w w.heap.size A1 n1 P)(hC:RdB cc w w.heap.size A2 n2 C)
  (hp:∀ x∈P,Ef x.1.per) (ht:Ls w w.heap.size t) (r1:n1<=1048576) (r2:n2<=1048576) :
  Calls Tryz.prog 96 #[.agg #[.slice A1 n1 c1,.slice A2 n2 c2,.slice A3 n3 c3],.slice t.A t.n t.c] w (Ans (.int .i64 (tbW P C t.l)) w):=by
 have aC:Hd (tbW P C t.l=if (ofF t.l).1=0 then (if (ofF t.l).2.any (fun r=>decide ((n1:Int)<=r.p))=true then 16 else E4 (Dx (ofF t.l).2) (P.map Prod.fst) C) else (ofF t.l).1):=hid (by unfold tbW;rw[hP.len]);have bI:Hd (∀ x∈P.map Prod.fst,Ef x.per):=hid fun x hx=>by
  obtain⟨y,hy,rfl⟩:=By.1 hx;exact hp y hy
 generalize tbW P C t.l=v at aC |-;have aD:=bl1 w (.cells #[.slice A1 n1 c1,.slice A2 n2 c2,.slice A3 n3 c3] 31);have aE:=Qcz t _ (ht.on aD);have aG:=fun e=>(Q9 (l:=t.l) e).1;have aF:=fun e=>(Q9 (l:=t.l) e).2;obtain⟨A,n,c,ll⟩:=t;dsimp only at aE aG aF aC |-;generalize (ofF ll).1=z at aE aG aF aC;generalize (ofF ll).2=L at aE aG aF aC;have bH:=hid aG;have bG:=hid aF;have HP:=hid (hP.on aD);have HC:=hid (hC.on aD);have m0:(w.alloc (.cells #[.slice A1 n1 c1,.slice A2 n2 c2,.slice A3 n3 c3] 31)).cell? ⟨w.heap.size,0,none⟩=some (.slice A1 n1 c1):=Ab _ _ _ _ _;have m1:(w.alloc (.cells #[.slice A1 n1 c1,.slice A2 n2 c2,.slice A3 n3 c3] 31)).cell? ⟨w.heap.size,1,none⟩=some (.slice A2 n2 c2):=Ab _ _ _ _ _;have m2:(w.alloc (.cells #[.slice A1 n1 c1,.slice A2 n2 c2,.slice A3 n3 c3] 31)).cell? ⟨w.heap.size,2,none⟩=some (.slice A3 n3 c3):=Ab _ _ _ _ _;have aJ:w.heap.size < (w.alloc (.cells #[.slice A1 n1 c1,.slice A2 n2 c2,.slice A3 n3 c3] 31)).heap.size:=by simp
 clear hP hC hp ht aG aF;go_in;go_upto_region 1 with fail;generalize w.alloc (.cells #[.slice A1 n1 c1,.slice A2 n2 c2,.slice A3 n3 c3] 31)=W at aD aE HP HC m0 m1 m2 aJ |-;obtain⟨g,hg⟩:∃ g,g=w.heap.size:=⟨_,rfl⟩;rw[<- hg] at m0 m1 m2 aJ |-;have HG:=hid hg;have HM:=hid fun(W':World) (hb:Below W.heap.size W W') (o:Nat) (v:Value) (hv:W.cell? ⟨g,o,none⟩=some v)=>(hb.cell (p:=⟨g,o,none⟩) aJ).trans hv;have HW:=hid fun(W':World) (hb:Below W.heap.size W W')=>aD.trans (hb.mono aD.size);have bJ:=hid aE;have M0:=hid m0;have M1:=hid m1;have M2:=hid m2;clear hg m0 m1 m2 aD aJ aE;go_wp2_with fail;refine bJ.o.mono ?_;rintro e w5⟨A4,n4,c4,rfl,bF,aY,bB⟩;have aT:=hid bB;clear bB;by_cases hz:z=0
 ·have bD:(z != 0)=false:=by rw[hz];rfl
  have hr:=aY hz;have h4:=bH.o hz;have h5:=bG.o hz;have HR:=hid hr;have bM:n4<=96:=by rw[<- hr.len];exact h5
  have aA:Hd (v=if L.any (fun r=>decide ((n1:Int)<=r.p))=true then 16 else E4 (Dx L) (P.map Prod.fst) C):=hid (aC.o.trans (if_pos hz));clear aY hr;subst hz;clear aC;go_wp2;go_loopw [8,19] (fun _ s wx=>∃ i:Nat,i<=n4/\s=.int .i64 i/\(∀(k:Nat) (r:Rn),k < i->L[k]? = some r->¬ (n1:Int)<=r.p)/\Below w5.heap.size w5 wx) (fun _ s _=>n4 - (intOf s).toNat)
  case atStart=>exact⟨0,by omega,rfl,fun k r hk=>by omega,Aj _ _⟩
  obtain⟨i,bN,rfl,aZ,hb⟩:=hrel;have aK:=hid aZ;clear aZ;have aB:=hid (aT.o.trans (hb.mono aT.o.size));by_cases aM:i < n4
  ·obtain⟨bO,r,rfl,aO,aL,e0,e1⟩:=(HR.o.on hb).at_ aM;have aN:=bl1 wr (.cells #[.int .i64 r.p,.int .i64 r.n] 129);have bL:=hid (hb.trans (aN.mono hb.size));have bC:=hid (aB.o.trans (aN.mono aB.o.size));have m0:=HM.o _ bC.o 0 _ M0.o;have aQ:Hd (¬ (n1:Int)<=r.p->∀(k:Nat) (r:Rn),k < i+1->L[k]? = some r->¬ (n1:Int)<=r.p):=hid fun h k r' hk aH=>by
    rcases Bk k i with h5 | h5
    ·exact aK.o k r' h5 aH
    obtain rfl:k=i:=by omega
    rw[aL] at aH;injection aH with aH;rw[<- aH];exact h
   have aU:Hd ((n1:Int)<=r.p->L.any (fun r=>decide ((n1:Int)<=r.p))=true):=hid fun h=>Ds.2 ⟨r,An aL,Ae h⟩;clear aN aL aO hb aK;by_cases aX:(n1:Int)<=r.p
   ·have aV:v=16:=by
     have e:=aA.o;rw[aU.o aX] at e;exact e
    have K:=hid aV;clear aA aV aQ aU;go_wp2;go_ret;exact Ans.mk (by rw[K.o];rfl) (HW.o _ bC.o)
   have aP:=hid (aQ.o aX);clear aQ aU;go_wp2;go_roundw
   case rel=>exact⟨i+1,by omega,by go_num,aP.o,bL.o⟩
   simp[intOf];omega
  have bE:n4<=i:=by omega
  have aI:Hd (v=E4 (Dx L) (P.map Prod.fst) C):=hid (by
   have e:=aA.o;have ha:L.any (fun r=>decide ((n1:Int)<=r.p))=false:=by
    rw[List.any_eq_false];intro r hr;obtain⟨k,hk⟩:=Bl hr;have:=aK.o k r (by have:=(Af.1 hk).1;have:=HR.o.len;omega) hk;simpa using this
   rw[ha] at e;exact e)
  have m0:=HM.o _ aB.o 0 _ M0.o;have m1:=HM.o _ aB.o 1 _ M1.o;have m2:=HM.o _ aB.o 2 _ M2.o;have aR:=hid (Vw A1 A2 A3 A4 n1 n2 n3 n4 c1 c2 c3 c4 (P.map Prod.fst) C L wr (HP.o.on aB.o).fsts (HC.o.on aB.o) (HR.o.on hb) (by omega) (by omega) bF (by omega) (by omega) bI.o);generalize E4 (Dx L) (P.map Prod.fst) C=y at aR aI;clear hb aA aK;go_wp2_with fail;refine aR.o.mono ?_;rintro e w7⟨rfl,bA⟩;have bK:=hid (aB.o.trans (bA.mono aB.o.size));clear bA m0 m1 m2 aR;go_wp2;go_ret;exact Ans.mk (by rw[aI.o];rfl) (HW.o _ bK.o)
 have bD:(z != 0)=true:=Bz.2 hz;have K:Hd (v=z):=hid (aC.o.trans (if_neg hz));clear aC hz;go_wp2;go_ret;exact Ans.mk (by rw[K.o];rfl) (HW.o _ aT.o)
theorem Vq(A1 A2 A3:Option Addr)(n1 n2 n3 c1 c2 c3:Nat)(P:List Pq)(C:List ChV)(T:List NdT)(w:World)(hP:RdB pcq w w.heap.size A1 n1 P)(hC:RdB cc w w.heap.size A2 n2 C)(hT:RdB tcn w w.heap.size A3 n3 T)
  (hp:∀ x∈P,Ro w w.heap.size x) (ht:∀ t∈T,Ls w w.heap.size t) (hk:n1<=c1) :
  Calls Tryz.prog 57 #[.agg #[.slice A1 n1 c1,.slice A2 n2 c2,.slice A3 n3 c3]] w (Ans (.tuple #[.int .i64 (D5 P C T).1,.int .i64 (D5 P C T).2]) w):=by
 have aR:=bl1 w (.cells #[.slice A1 n1 c1,.slice A2 n2 c2,.slice A3 n3 c3] 31);have e1:=hP.len;have e2:=hC.len;have e3:=hT.len;have aC:Hd (¬ (1<=n1/\n1<=6/\n2<=8/\1<=n3/\n3<=3)->D5 P C T=(3,0)):=hid fun h=>Ni (by unfold Eu;rw[e1,e2,e3];exact h);have WP:Hd ((1<=n1/\n1<=6/\n2<=8/\1<=n3/\n3<=3)->∀ i,i < n1->(∀ j,j < i->ptE P j=0)->ptE P i≠0->D5 P C T=(ptE P i,(i:Int))):=hid fun h i hi=>Ml (by unfold Eu;rw[e1,e2,e3];exact h) (by omega);have WC:Hd ((1<=n1/\n1<=6/\n2<=8/\1<=n3/\n3<=3)->(∀ j,j < n1->ptE P j=0)->∀ i,i < n2->(∀ j,j < i->chE C n1 j=0)->chE C n1 i≠0->D5 P C T=(chE C n1 i,(i:Int))):=hid fun h hp i hi=>by
  have:=Mm (T:=T) (by unfold Eu;rw[e1,e2,e3];exact h) (by rw[e1];exact hp) (i:=i) (by omega);rw[e1] at this;exact this
 have WT:Hd ((1<=n1/\n1<=6/\n2<=8/\1<=n3/\n3<=3)->(∀ j,j < n1->ptE P j=0)->(∀ j,j < n2->chE C n1 j=0)->∀ i,i < n3->(∀ j,j < i->tbE P C T j=0)->tbE P C T i≠0->D5 P C T=(tbE P C T i,(i:Int))):=hid fun h hp hc i hi =>
  Nh (by unfold Eu;rw[e1,e2,e3];exact h) (by rw[e1];exact hp) (by rw[e1,e2];exact hc) (i:=i) (by omega)
 have aH:Hd ((1<=n1/\n1<=6/\n2<=8/\1<=n3/\n3<=3)->(∀ j,j < n1->ptE P j=0)->(∀ j,j < n2->chE C n1 j=0)->(∀ j,j < n3->tbE P C T j=0)->D5 P C T=(0,-1)):=hid fun h hp hc ht =>
  Hs (by unfold Eu;rw[e1,e2,e3];exact h) (by rw[e1];exact hp) (by rw[e1,e2];exact hc) (by rw[e3];exact ht)
 have bW:Hd (∀ x∈P,Ef x.1.per):=hid fun x hx=>(hp x hx).per;generalize D5 P C T=V at aC WP WC WT aH |-;obtain⟨V1,V2⟩:=V;dsimp only at aC WP WC WT aH |-;have bP:Hd ((wiF (n1:Int) 1 6 && (decide (n2<=8) && wiF (n3:Int) 1 3))=decide (1<=n1/\n1<=6/\n2<=8/\1<=n3/\n3<=3)):=hid (by
  rw[show wiF (n1:Int) 1 6=(decide (1<=n1) && decide (n1<=6)) from M3 n1 1 6,show wiF (n3:Int) 1 3=(decide (1<=n3) && decide (n3<=3)) from M3 n3 1 3];simp only[Bool.decide_and,Bool.and_assoc])
 have bH:=hid fun V=>me A1 A2 A3 n1 n2 n3 c1 c2 c3 V;rw[bP.o] at bH;have HP:=hid hP;have HC:=hid hC;have HT:=hid hT;have bV:=hid hp;have bU:=hid ht;have m0:(w.alloc (.cells #[.slice A1 n1 c1,.slice A2 n2 c2,.slice A3 n3 c3] 31)).cell? ⟨w.heap.size,0,none⟩=some (.slice A1 n1 c1):=Ab _ _ _ _ _;have m1:(w.alloc (.cells #[.slice A1 n1 c1,.slice A2 n2 c2,.slice A3 n3 c3] 31)).cell? ⟨w.heap.size,1,none⟩=some (.slice A2 n2 c2):=Ab _ _ _ _ _;have m2:(w.alloc (.cells #[.slice A1 n1 c1,.slice A2 n2 c2,.slice A3 n3 c3] 31)).cell? ⟨w.heap.size,2,none⟩=some (.slice A3 n3 c3):=Ab _ _ _ _ _;have aY:w.heap.size < (w.alloc (.cells #[.slice A1 n1 c1,.slice A2 n2 c2,.slice A3 n3 c3] 31)).heap.size:=by simp
 clear hP hC hT hp ht e1 e2 e3 bP;go_in;go_upto_region 1 with fail;generalize w.alloc (.cells #[.slice A1 n1 c1,.slice A2 n2 c2,.slice A3 n3 c3] 31)=W at aR m0 m1 m2 aY |-;obtain⟨g,hg⟩:∃ g,g=w.heap.size:=⟨_,rfl⟩;rw[<- hg] at m0 m1 m2 aY |-;have HG:=hid hg;have HM:=hid fun(W':World) (hb:Below W.heap.size W W') (o:Nat) (v:Value) (hv:W.cell? ⟨g,o,none⟩=some v)=>(hb.cell (p:=⟨g,o,none⟩) aY).trans hv;have HW:=hid fun(W':World) (hb:Below W.heap.size W W')=>aR.trans (hb.mono aR.size);have M0:=hid m0;have M1:=hid m1;have M2:=hid m2;clear hg aR;go_wp2_with fail;refine(bH.o W).mono ?_;rintro e w1⟨rfl,bK⟩;have aM:=hid bK;clear m0 m1 m2 bH bK;by_cases qz:1<=n1/\n1<=6/\n2<=8/\1<=n3/\n3<=3
 case neg =>
  have hd:decide (1<=n1/\n1<=6/\n2<=8/\1<=n3/\n3<=3)=false:=Ac qz;have hv:=aC.o qz;injection hv with aE aD;subst aE aD;rw[hd];clear aC WP WC WT aH hd qz;go_wp2;go_ret2;exact Ans.mk rfl (HW.o _ aM.o)
 have hd:decide (1<=n1/\n1<=6/\n2<=8/\1<=n3/\n3<=3)=true:=Ae qz;rw[hd];clear hd;have WP:=hid (WP.o qz);have WC:=hid (WC.o qz);have WT:=hid (WT.o qz);have aH:=hid (aH.o qz);have r0:1<=n1:=qz.1;have r1:n1<=6:=qz.2.1;have r2:n2<=8:=qz.2.2.1;have r3:n3<=3:=qz.2.2.2.2;have m0:=HM.o w1 aM.o 0 _ M0.o;clear aC qz;go_wp2;clear m0;go_loopw [4,5,6,18] (fun _ _ _ s wr=>∃ i:Nat,i<=n1/\s=.int .i64 i/\(∀ j,j < i->ptE P j=0)/\Below W.heap.size W wr) (fun _ _ _ s _=>n1 - (intOf s).toNat)
 case atStart=>exact⟨0,by omega,rfl,fun j hj=>by omega,aM.o⟩
 obtain⟨i,hi,rfl,aF,hb⟩:=hrel;have aA:=hid aF;clear aF;by_cases aG:i < n1
 ·obtain⟨ad,x,rfl,bL,hx,c0,ck⟩:=(HP.o.on (HW.o _ hb)).at_ Fv (by omega) aG;have bA:=(bV.o x (An hx)).on (HW.o _ hb);have d0:=c0 _ rfl;have d1:=ck 1 _ (by omega) rfl;have d2:=ck 2 _ (by omega) rfl;have d3:=ck 3 _ (by omega) rfl;have d4:=ck 4 _ (by omega) rfl;have d5:=ck 5 _ (by omega) rfl;have d6:=ck 6 _ (by omega) rfl;have d7:=ck 7 _ (by omega) rfl;have d8:=ck 8 _ (by omega) rfl;have d9:=ck 9 _ (by omega) rfl;have bN:=ck 10 _ (by omega) rfl;have bI:ptE P i=paF (P.take i) x:=by
   rw[ia];unfold ptE;rw[hx]
  have aU:=hid (WP.o i aG aA.o);have aB:=hid fun(h:ptE P i=0)=>F7 (p:=fun j=>ptE P j=0) aA.o h;have aL:=hid fun V (hv:Below wr.heap.size wr V)=>gm x (some ad) i c1 (P.take i) V (bA.on hv).procs bA.name (((HP.o.on (HW.o _ hb)).on hv).tak (by omega)) (by omega);rw[<- bI] at aL;generalize ptE P i=z at aU aB aL;obtain⟨⟨nm,bu,pe,sc,st,pa,pn,pc,h0,h1,h2,h3,h4⟩,L⟩:=x;dsimp only at d0 d1 d2 d3 d4 d5 d6 d7 d8 d9 bN;dsimp only[pv] at aL;have aI:=bl1 wr (.cells #[.string nm,.int .i64 bu,.int .i64 pe,.bool sc,.bool st,.slice pa pn pc,.int .i64 h0,.int .i64 h1,.int .i64 h2,.int .i64 h3,.int .i64 h4] 60);have aL:=hid fun V (hv:Below (wr.alloc (.cells #[.string nm,.int .i64 bu,.int .i64 pe,.bool sc,.bool st,.slice pa pn pc,.int .i64 h0,.int .i64 h1,.int .i64 h2,.int .i64 h3,.int .i64 h4] 60)).heap.size (wr.alloc (.cells #[.string nm,.int .i64 bu,.int .i64 pe,.bool sc,.bool st,.slice pa pn pc,.int .i64 h0,.int .i64 h1,.int .i64 h2,.int .i64 h3,.int .i64 h4] 60)) V)=>aL.o V (aI.trans (hv.mono aI.size));have aN:=hid (hb.trans (aI.mono hb.size));have bX:i<=c1:=by omega
  clear c0 ck hx bA bI aA;go_upto_region 6 with fail;have m0:=HM.o _ aN.o 0 _ M0.o;have HF:Hd (∀ o v,(#[Value.string nm,.int .i64 bu,.int .i64 pe,.bool sc,.bool st,.slice pa pn pc,.int .i64 h0,.int .i64 h1,.int .i64 h2,.int .i64 h3,.int .i64 h4]:Array Value)[o]? = some v->(wr.alloc (.cells #[.string nm,.int .i64 bu,.int .i64 pe,.bool sc,.bool st,.slice pa pn pc,.int .i64 h0,.int .i64 h1,.int .i64 h2,.int .i64 h3,.int .i64 h4] 60)).cell? ⟨wr.heap.size,o,none⟩=some v):=hid fun o v hv=>(Ab _ _ _ _ _).trans hv;generalize wr.alloc (.cells #[.string nm,.int .i64 bu,.int .i64 pe,.bool sc,.bool st,.slice pa pn pc,.int .i64 h0,.int .i64 h1,.int .i64 h2,.int .i64 h3,.int .i64 h4] 60)=W5 at aL aN HF m0 |-;generalize wr.heap.size=gx at HF |-;have f0:=HF.o 0 _ rfl;have f1:=HF.o 1 _ rfl;have f2:=HF.o 2 _ rfl;have f3:=HF.o 3 _ rfl;have f4:=HF.o 4 _ rfl;have f5:=HF.o 5 _ rfl;have f6:=HF.o 6 _ rfl;have f7:=HF.o 7 _ rfl;have f8:=HF.o 8 _ rfl;have f9:=HF.o 9 _ rfl;have bT:=HF.o 10 _ rfl;clear HF d0 d1 d2 d3 d4 d5 d6 d7 d8 d9 bN aI hb;go_region_with (go_at_call 94;refine(aL.o _ (by first | exact Aj _ _ | exact(Aj _ _).drew | exact Below.drewN (Aj _ _) _)).mono ?_;rintro e w6⟨rfl,aZ⟩)
  all_goals
   have aQ:Hd (Below W.heap.size W w6):=hid (by first | exact aN.o.trans (aZ.mono aN.o.size) | exact aN.o.trans (Below.mono (Below.trans (Aj _ _).drew aZ) aN.o.size));clear aZ f0 f1 f2 f3 f4 f5 f6 f7 f8 f9 bT m0;by_cases hz:z=0
   ·have aX:(z != 0)=false:=by rw[hz];rfl
    have HN:=hid (aB.o hz);clear aB aU;subst hz;go_wp2;go_roundw
    case rel=>exact⟨i+1,by omega,by go_num,HN.o,aQ.o⟩
    simp[intOf];omega
   have aX:(z != 0)=true:=Bz.2 hz;have hv:=aU.o hz;injection hv with aE aD;subst aE aD;clear aB aU WP WC WT aH;go_wp2;go_ret2;exact Ans.mk rfl (HW.o _ aQ.o)
 have bJ:n1<=i:=by omega
 have bF:Hd (∀ j,j < n1->ptE P j=0):=hid fun j hj=>aA.o j (by omega);have bD:=hid (WC.o bF.o);have bC:=hid (WT.o bF.o);have aK:=hid (aH.o bF.o);have m1:=HM.o wr hb 1 _ M1.o;clear WP WC WT aH aA;go_wp2;clear m1;go_loopw [7,8,37] (fun _ _ s wx=>∃ j:Nat,j<=n2/\s=.int .i64 j/\(∀ k,k < j->chE C n1 k=0)/\Below W.heap.size W wx) (fun _ _ s _=>n2 - (intOf s).toNat)
 case atStart=>exact⟨0,by omega,rfl,fun k hk=>by omega,hb⟩
 obtain⟨j,hj,rfl,aF,hb⟩:=hrel;have aA:=hid aF;clear aF;by_cases aG:j < n2
 ·obtain⟨ad,x,rfl,bL,hx,c0,ck⟩:=(HC.o.on (HW.o _ hb)).at_ Gk (by omega) aG;have d0:=c0 _ rfl;have d1:=ck 1 _ (by omega) rfl;have d2:=ck 2 _ (by omega) rfl;have d3:=ck 3 _ (by omega) rfl;have d4:=ck 4 _ (by omega) rfl;have d5:=ck 5 _ (by omega) rfl;have HE:=hid (Vs (n:=n1) hx);have bE:=hid (bD.o j aG aA.o);have aB:=hid fun(h:chE C n1 j=0)=>F7 (p:=fun j=>chE C n1 j=0) aA.o h;obtain⟨xf,xt,xq,xc,xm,xl⟩:=x;dsimp only at d0 d1 d2 d3 d4 d5;have aI:=bl1 wr (.cells #[.int .i64 xf,.int .i64 xt,.bool xq,.int .i64 xc,.int .u32 xm,.int .i64 xl] 66);have aM:=hid (hb.trans (aI.mono hb.size));have m0:=HM.o _ aM.o 0 _ M0.o;have bQ:=hid fun V=>jg ⟨xf,xt,xq,xc,xm,xl⟩ n1 (by omega) V;generalize Hi ⟨xf,xt,xq,xc,xm,xl⟩ (n1:Int)=b at bQ HE;clear c0 ck hx aI aA;go_wp2_with fail;refine(bQ.o _).mono ?_;rintro e w5⟨rfl,aO⟩;have bS:=hid (aM.o.trans (aO.mono aM.o.size));clear aO d0 d1 d2 d3 d4 d5 m0;cases b
  ·have aV:chE C n1 j=17:=HE.o;have hv:=bE.o (by rw[aV];decide);rw[aV] at hv;injection hv with aE aD;subst aE aD;clear HE bE aB aV bD bC aK;go_wp2;go_ret2;exact Ans.mk rfl (HW.o _ bS.o)
  have k0:chE C n1 j=0:=HE.o;have bG:=hid (aB.o k0);clear k0 HE bE aB;go_wp2;go_roundw
  case rel=>exact⟨j+1,by omega,by go_num,bG.o,bS.o⟩
  simp[intOf];omega
 have bJ:n2<=j:=by omega
 have bR:Hd (∀ k,k < n2->chE C n1 k=0):=hid fun k hk=>aA.o k (by omega);have bB:=hid (bC.o bR.o);have aJ:=hid (aK.o bR.o);have m2:=HM.o wr hb 2 _ M2.o;clear bD bC aK aA;go_wp2;clear m2;go_loopw [9,10,11,53] (fun _ _ _ s wx=>∃ j:Nat,j<=n3/\s=.int .i64 j/\(∀ k,k < j->tbE P C T k=0)/\Below W.heap.size W wx) (fun _ _ _ s _=>n3 - (intOf s).toNat)
 case atStart=>exact⟨0,by omega,rfl,fun k hk=>by omega,hb⟩
 obtain⟨j,hj,rfl,aF,hb⟩:=hrel;have aA:=hid aF;clear aF;by_cases aG:j < n3
 ·obtain⟨ad,t,rfl,bL,hx,c0,ck⟩:=(HT.o.on (HW.o _ hb)).at_ Hm (by omega) aG;have d0:=c0 _ rfl;rw[Cj] at d0;have bM:=(bU.o t (An hx)).on (HW.o _ hb);have bO:=hid (Np (P:=P) (C:=C) hx);have aT:=hid (bB.o j aG aA.o);have aB:=hid fun(h:tbE P C T j=0)=>F7 (p:=fun j=>tbE P C T j=0) aA.o h;have aP:=hid (fo A1 A2 (some ad) n1 n2 n3 c1 c2 c3 P C t wr (HP.o.on (HW.o _ hb)) (HC.o.on (HW.o _ hb)) bW.o bM (by omega) (by omega));have m0:=HM.o wr hb 0 _ M0.o;have m1:=HM.o wr hb 1 _ M1.o;have m2:=HM.o wr hb 2 _ M2.o;rw[<- bO.o] at aP;generalize tbE P C T j=z at aT aB aP;obtain⟨A,n,c,ll⟩:=t;dsimp only at d0 aP;clear c0 ck hx bM bO aA;go_wp2_with fail;refine aP.o.mono ?_;rintro e w5⟨rfl,aO⟩;have aQ:=hid (hb.trans (aO.mono hb.size));clear aO d0 m0 m1 m2 aP;by_cases hz:z=0
  ·have aX:(z != 0)=false:=by rw[hz];rfl
   have HN:=hid (aB.o hz);clear aB aT;subst hz;go_wp2;go_roundw
   case rel=>exact⟨j+1,by omega,by go_num,HN.o,aQ.o⟩
   simp[intOf];omega
  have aX:(z != 0)=true:=Bz.2 hz;have hv:=aT.o hz;injection hv with aE aD;subst aE aD;clear aB aT bB aJ;go_wp2;go_ret2;exact Ans.mk rfl (HW.o _ aQ.o)
 have bJ:n3<=j:=by omega
 have hv:=aJ.o fun k hk=>aA.o k (by omega);injection hv with aE aD;subst aE aD;clear bB aJ aA;go_wp2;go_ret2;exact Ans.mk rfl (HW.o _ hb)
theorem Jp(A1 A2 A3:Option Addr)(n1 n2 n3 c1 c2 c3:Nat)(P:List Pq)(C:List ChV)(T:List NdT)(w:World)(hP:RdB pcq w w.heap.size A1 n1 P)(hC:RdB cc w w.heap.size A2 n2 C)(hT:RdB tcn w w.heap.size A3 n3 T)
  (hp:∀ x∈P,Ro w w.heap.size x) (ht:∀ t∈T,Ls w w.heap.size t) (hk:n1<=c1) :
  Calls Tryz.prog 30 #[.agg #[.slice A1 n1 c1,.slice A2 n2 c2,.slice A3 n3 c3]] w (Ans (.int .i64 (D5 P C T).1) w):=by
 have aA:=bl1 w (.cells #[.slice A1 n1 c1,.slice A2 n2 c2,.slice A3 n3 c3] 31);have HW:=hid (Vq A1 A2 A3 n1 n2 n3 c1 c2 c3 P C T _ (hP.on aA) (hC.on aA) (hT.on aA) (fun x hx=>(hp x hx).on aA) (fun t aB=>(ht t aB).on aA) hk);clear hP hC hT hp ht;go_in;go_wp2_with fail;refine HW.o.mono ?_;rintro e w5⟨rfl,aC⟩;go_wp2;go_ret;exact Ans.mk rfl (aA.trans (aC.mono aA.size))
def ij(v:Option Value):Int:=match v with | some (.int _ z)=>z | _=>0
def prL(w:World)(A:Option Addr)(n:Nat):List (Int×Int):=match A with
 | none=>[]
 | some ad=>(List.range n).map fun i=>(ij (w.cell? (ad.add (i*2))),ij (w.cell? ⟨(ad.add (i*2)).block,(ad.add (i*2)).off+1,none⟩))
theorem bg{w:World}{B n i:Nat}{A:Option Addr}(h:F9 w B A n)(hi:i < n):∃ ad e p,A=some ad/\ad.block < B/\w.cell? (ad.add (i*2))=some (.int .i64 e)/\w.cell? ⟨(ad.add (i*2)).block,(ad.add (i*2)).off+1,none⟩=some (.int .i64 p)/\Pk e p/\(prL w A n)[i]? = some (e,p):=by
 obtain⟨ad,e,p,hA,hb,h1,h2,h3⟩:=h i hi;refine⟨ad,e,p,hA,hb,h1,h2,h3,?_⟩;subst hA;show ((List.range n).map _)[i]? = _;rw[Bm,List.getElem?_range hi];show some (ij (w.cell? (ad.add (i*2))),ij (w.cell? ⟨(ad.add (i*2)).block,(ad.add (i*2)).off+1,none⟩))=_;rw[h1,h2];rfl
theorem M7{w:World}{B n:Nat}{A:Option Addr}(h:F9 w B A n):(prL w A n).length=n:=by
 by_cases h0:0 < n
 ·obtain⟨ad,e,p,rfl,_⟩:=h 0 h0;show ((List.range n).map _).length=n;rw[Bi,List.length_range]
 obtain rfl:n=0:=by omega
 cases A <;> rfl
theorem k9{w:World}{B n:Nat}{A:Option Addr}(h:F9 w B A n):RdB prc w B A n (prL w A n):=by
 refine⟨M7 h,fun h0=>?_⟩;rw[Ln F5,M7 h] at h0;obtain⟨ad,e,p,hA,hb,_⟩:=h 0 (by omega);refine⟨ad,hA,hb,fun j v hj=>?_⟩;have aB:=(Af.1 hj).1;rw[Ln F5,M7 h] at aB;obtain⟨aC,e2,p2,aA,_,c0,c1,_,hg⟩:=bg h (i:=j / 2) (by omega);obtain rfl:ad=aC:=by rw[hA] at aA;injection aA
 have h3:=Lo F5 _ (j / 2) (j % 2) (e2,p2) hg (Nat.mod_lt _ (by omega));rw[show j / 2*2+j % 2=j by omega,hj] at h3;rcases(by omega:j % 2=0\/j % 2=1) with hm | hm
 ·rw[hm] at h3;rw[show j=j / 2*2 by omega,c0];exact h3.symm
 rw[hm] at h3;have e:ad.add j=⟨(ad.add (j / 2*2)).block,(ad.add (j / 2*2)).off+1,none⟩:=by
  conv=>lhs;rw[show j=j / 2*2+1 by omega]
  rw[<- Ka];rfl
 rw[e,c1];exact h3.symm
theorem ld{w:World}{B n:Nat}{A:Option Addr}(h:F9 w B A n):(prL w A n).all Fm=true:=by
 rw[Ct];intro q hq;obtain⟨i,hi⟩:=Bl hq;have aA:=(Af.1 hi).1;rw[M7 h] at aA;obtain⟨_,e,p,_,_,_,_,h3,hg⟩:=bg h aA;rw[hi] at hg;injection hg with hg;subst hg;unfold Pk at h3;unfold Fm;simp only[Au,Av];omega
def pq(w:World)(x:PtV):Pq:=(x,prL w x.pa x.pn)
theorem bf{w w':World}{B n:Nat}{A:Option Addr}(h:F9 w B A n)(hk:∀ k,k < B->obk A=some k->w'.heap[k]? = w.heap[k]?):prL w' A n=prL w A n:=by
 by_cases h0:0 < n
 ·obtain⟨ad,e,p,rfl,hb,_⟩:=h 0 h0;have aA:=hk ad.block hb rfl;show (List.range n).map _=(List.range n).map _;refine List.map_congr_left fun i _=>?_;rw[Bf (w:=w) (w':=w') (a:=ad.add (i*2)) (by rw[Eh];exact aA),Bf (w:=w) (w':=w') (a:=⟨(ad.add (i*2)).block,(ad.add (i*2)).off+1,none⟩) (by show w'.heap[(ad.add (i*2)).block]? = w.heap[(ad.add (i*2)).block]?;rw[Eh];exact aA)]
 obtain rfl:n=0:=by omega
 cases A <;> rfl
theorem Wl{w w':World}{B:Nat}{x:PtV}(h:F9 w B x.pa x.pn)(hk:∀ k,k < B->obk x.pa=some k->w'.heap[k]? = w.heap[k]?):pq w' x=pq w x:=by
 unfold pq;rw[bf h hk]
def ndT(t:TbV):NdT:=⟨t.A,t.n,t.c,t.x::t.k.flat⟩
theorem gu(w:World)(P:List PtV):(P.map (pq w)).flatMap pcq=P.flatMap pcl:=by
 rw[List.flatMap_map];rfl
theorem RdB.pq{w:World}{B n:Nat}{A:Option Addr}{P:List PtV}(v:World)(h:RdB pcl w B A n P):RdB pcq w B A n (P.map (pq v)):=⟨by rw[Bi];exact h.len,by rw[gu];exact h.rd⟩
theorem ci(T:List TbV):(T.map ndT).flatMap tcn=T.flatMap tcl:=by
 rw[List.flatMap_map];rfl
theorem RdB.ndt{w:World}{B n:Nat}{A:Option Addr}{T:List TbV}(h:RdB tcl w B A n T):RdB tcn w B A n (T.map ndT):=⟨by rw[Bi];exact h.len,by rw[ci];exact h.rd⟩
theorem Ov.ax{w:World}{B:Nat}{x:PtV}(h:Ov w B x):Ro w B (pq w x):=⟨h.per,Ai h.name (by omega),k9 h.procs⟩
theorem Mg.nd{w:World}{B:Nat}{t:TbV}(h:Mg w B t):Ls w B (ndT t):=⟨h.rd,h.cap,Ai h.few (by omega)⟩
theorem Xd(A1 A2 A3:Option Addr)(n1 n2 n3 c1 c2 c3:Nat)(P:List PtV)(C:List ChV)(T:List TbV)(w:World)(hP:RdB pcl w w.heap.size A1 n1 P)(hC:RdB cc w w.heap.size A2 n2 C)(hT:RdB tcl w w.heap.size A3 n3 T)
  (hp:∀ x∈P,Ov w w.heap.size x) (ht:∀ t∈T,Mg w w.heap.size t) :
  Calls Tryz.prog 27 #[.agg #[.slice A1 n1 c1,.slice A2 n2 c2,.slice A3 n3 c3]] w (Ans (.int .i64 (D5 (P.map (pq w)) C (T.map ndT)).1) w) :=
 Kh A1 A2 A3 n1 n2 n3 c1 c2 c3 (P.map (pq w)) C (T.map ndT) w (hP.pq w) hC hT.ndt (fun x hx=>by
  obtain⟨y,hy,rfl⟩:=By.1 hx
  exact(hp y hy).ax) (fun t aA=>by
  obtain⟨y,hy,rfl⟩:=By.1 aA
  exact(ht y hy).nd)
def Xa(w:World)(P:List PtV)(C:List ChV)(T:List TbV):Prop:=(∀ x∈P,x.bud=0/\x.per=0)\/(D5 (P.map (pq w)) C (T.map ndT)).1=0
structure RtW(n1:Nat)(P:List PtV)(C:List ChV)(T:List TbV)(w:World):Prop where
 pt:∀ x∈P,Ov w w.heap.size x
 nm:∀ i x,P[i]? = some x->x.name=nmL i/\Jr x/\(1<=x.pn/\x.pn<=2)/\x.pn<=x.pc
 ch:∀ x∈C,O9 n1 x/\(0<=x.late/\x.late<=4096)/\x.from_≠x.to_/\if x.queue=true then 1<=x.cap/\x.cap<=8 else x.cap=0
 tq:∀ t∈T,TbQ n1 t
 dn:Xa w P C T
theorem Wx{P P':List PtV}(h:P'.map coreP=P.map coreP){i:Nat}{x':PtV}(hx:P'[i]? = some x'):∃ x,P[i]? = some x/\coreP x'=coreP x:=by
 have h1:(P'.map coreP)[i]? = some (coreP x'):=by rw[Bm,hx];rfl
 rw[h,Bm] at h1;cases hp:P[i]? with
 | none=>rw[hp] at h1;cases h1
 | some x=>rw[hp] at h1;injection h1 with h1;exact⟨x,rfl,h1.symm⟩
theorem du{C C':List ChV}(h:C'.map coreC=C.map coreC){x':ChV}(hx:x'∈C'):∃ x∈C,coreC x'=coreC x:=by
 have h1:coreC x'∈C.map coreC:=by rw[<- h];exact List.mem_map_of_mem hx
 obtain⟨y,hy,e⟩:=By.1 h1;exact⟨y,hy,e.symm⟩
section
variable {B b:Nat} {A:Option Addr} {m c:Nat} {f:Nat->Int} {w:World} {gr gc BB:Nat} {A1 A2 A3:Option Addr} {n1 n2 n3 c1 c2 c3:Nat} {P P':List PtV} {C C':List ChV} {T:List TbV} {wr w':World}
theorem CfgS.rt(h:CfgS B b A m c f w gr gc BB A1 A2 A3 n1 n2 n3 c1 c2 c3 P C T wr)(hB:CfgB b w gr gc BB)(ho:Only (pO b A1 A2) wr w')(aD:P'.map coreP=P.map coreP)(aI:C'.map coreC=C.map coreC)(aH:∀ x∈P',Ef x.per)(aG:∀ x∈C',0<=x.late/\x.late<=4096)
  (aK:Tn P) (aL:∀ x∈C,Xb n1 x) (aJ:∀ t∈T,TbQ n1 t) (hd:Xa wr P' C' T) (v0 v1 v2:Value):RtW n1 P' C' T (Fo w' gr v0 v1 v2):=by
 have h1:=hB.br;have h3:=hB.rc;have h4:=hB.cB;have hs:(Fo w' gr v0 v1 v2).heap.size=w'.heap.size:=by simp[Fo]
 have aB:∀ k,k≠gr->(Fo w' gr v0 v1 v2).heap[k]? = w'.heap[k]?:=fun k hk=>by
  unfold Fo;rw[Bn _ _ _ _ hk,Bn _ _ _ _ hk,Bn _ _ _ _ hk]
 have aE:Only (fun k=>pO b A1 A2 k\/k=gr) wr (Fo w' gr v0 v1 v2):=⟨ho.os,ho.tape,ho.output,by rw[hs];exact ho.size,fun k hk hn=>(aB k fun e=>hn (.inr e)).trans (ho.block k hk fun e=>hn (.inl e))⟩;have aF:∀ x∈P,∀ k,obk x.pa=some k->¬ (pO b A1 A2 k\/k=gr):=fun x hx k hk e=>by
  have h5:=(h.pt x hx).2 k hk;rcases e with (e | e | e) | e
  ·omega
  ·exact h5.2.2.1 e
  ·exact h5.2.2.2.1 e
  omega
 have aC:∀ x'∈P',∃ i x,P'[i]? = some x'/\P[i]? = some x/\coreP x'=coreP x:=fun x' hx=>by
  obtain⟨i,hi⟩:=Bl hx;obtain⟨x,h5,h6⟩:=Wx aD hi;exact⟨i,x,hi,h5,h6⟩
 refine⟨fun x' hx=>?_,fun i x' hx=>?_,fun x' hx=>?_,aJ,?_⟩
 ·obtain⟨i,x,_,hi,e⟩:=aC x' hx;have ea:x'.pa=x.pa:=(show (coreP x').pa=(coreP x).pa from congrArg PtV.pa e);have en:x'.pn=x.pn:=(show (coreP x').pn=(coreP x).pn from congrArg PtV.pn e);have em:x'.name=x.name:=(show (coreP x').name=(coreP x).name from congrArg PtV.name e);have aA:=An hi;have hp:=(h.pt x aA).1;exact⟨aH x' hx,by rw[em];exact hp.name,by rw[en];exact hp.few,by rw[ea,en];exact hp.procs.only aE (aF x aA)⟩
 ·obtain⟨x,hi,e⟩:=Wx aD hx;obtain⟨g1,_,_,g2,g3,g4⟩:=aK i x hi;have en:x'.pn=x.pn:=(show (coreP x').pn=(coreP x).pn from congrArg PtV.pn e);have ec:x'.pc=x.pc:=(show (coreP x').pc=(coreP x).pc from congrArg PtV.pc e);have em:x'.name=x.name:=(show (coreP x').name=(coreP x).name from congrArg PtV.name e);have e0:x'.h0=x.h0:=(show (coreP x').h0=(coreP x).h0 from congrArg PtV.h0 e);have e1:x'.h1=x.h1:=(show (coreP x').h1=(coreP x).h1 from congrArg PtV.h1 e);have e2:x'.h2=x.h2:=(show (coreP x').h2=(coreP x).h2 from congrArg PtV.h2 e);have e3:x'.h3=x.h3:=(show (coreP x').h3=(coreP x).h3 from congrArg PtV.h3 e);have e4:x'.h4=x.h4:=(show (coreP x').h4=(coreP x).h4 from congrArg PtV.h4 e);refine⟨em.trans g1,?_,by rw[en];exact g3,by rw[en,ec];exact g4⟩;unfold Jr;rw[e0,e1,e2,e3,e4];exact g2
 ·obtain⟨x,aA,e⟩:=du aI hx;obtain⟨g1,_,g2,g3⟩:=aL x aA;have e0:x'.from_=x.from_:=(show (coreC x').from_=(coreC x).from_ from congrArg ChV.from_ e);have e1:x'.to_=x.to_:=(show (coreC x').to_=(coreC x).to_ from congrArg ChV.to_ e);have e2:x'.queue=x.queue:=(show (coreC x').queue=(coreC x).queue from congrArg ChV.queue e);have e3:x'.cap=x.cap:=(show (coreC x').cap=(coreC x).cap from congrArg ChV.cap e);have e5:x'.max=x.max:=(show (coreC x').max=(coreC x).max from congrArg ChV.max e);unfold O9 at g1 |-;rw[e0,e1,e2,e3,e5];exact⟨g1,aG x' hx,g2,g3⟩
 rcases hd with hd | hd
 ·exact .inl hd
 refine .inr ?_;have e:P'.map (pq (Fo w' gr v0 v1 v2))=P'.map (pq wr):=List.map_congr_left fun x' hx=>by
  obtain⟨i,x,_,hi,e⟩:=aC x' hx;have ea:x'.pa=x.pa:=(show (coreP x').pa=(coreP x).pa from congrArg PtV.pa e);have en:x'.pn=x.pn:=(show (coreP x').pn=(coreP x).pn from congrArg PtV.pn e);have aA:=An hi;refine Wl (B:=wr.heap.size) (by rw[ea,en];exact(h.pt x aA).1.procs) fun k hk ek=>aE.block k hk (aF x aA k (by rw[<- ea];exact ek))
 rw[e];exact hd
