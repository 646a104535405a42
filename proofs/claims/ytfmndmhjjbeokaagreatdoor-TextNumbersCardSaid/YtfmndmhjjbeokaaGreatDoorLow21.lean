import Derived.Test.YtfmndmhjjbeokaaGreatDoorLow20
import Derived.Deep.RegionWith
set_option maxHeartbeats 4000000
set_option maxRecDepth 100000
set_option linter.unusedSimpArgs false
set_option linter.unusedVariables false
namespace Go.Proofs.YtfmndmhjjbeokaaGreatDoor
open Go.RowKit Tab
def chT(x:ChV):Int×Int×Bool×Int×Int×Int:=(x.from_,x.to_,x.queue,x.cap,x.max,x.late)
theorem ji{x y:ChV}(h:chT x=chT y):x=y:=by
 obtain⟨a,b,c,d,e,f⟩:=x;obtain⟨a2,b2,c2,d2,e2,f2⟩:=y;unfold chT at h;simp at h;obtain⟨rfl,rfl,rfl,rfl,rfl,rfl⟩:=h;rfl
instance:DecidableEq ChV:=fun x y=>if h:chT x=chT y then isTrue (ji h) else isFalse fun e=>h (by rw[e])
theorem jh(x y:ChV)(W:World):(binOp .neq 66 (cv x) (cv y)).run Tryz.prog W=.ok (.bool (!(decide (x=y)))) W:=by
 obtain⟨a,b,c,d,e,f⟩:=x;obtain⟨a2,b2,c2,d2,e2,f2⟩:=y;by_cases h1:a=a2
 ·by_cases h2:b=b2
  ·by_cases h3:c=c2
   ·by_cases h4:d=d2
    ·by_cases h5:e=e2
     ·by_cases h6:f=f2
      ·subst h1;subst h2;subst h3;subst h4;subst h5;subst h6;simp[C6,go_sem]
      subst h1;subst h2;subst h3;subst h4;subst h5;simp[C6,go_sem,h6]
     subst h1;subst h2;subst h3;subst h4;simp[C6,go_sem,h5]
    subst h1;subst h2;subst h3;simp[C6,go_sem,h4]
   subst h1;subst h2;simp[C6,go_sem,h3]
  subst h1;simp[C6,go_sem,h2]
 simp[C6,go_sem,h1]
def Mw(P:List Pq)(C:List ChV)(P':List Pq)(C':List ChV):Prop:=P.length=P'.length/\(∀(i:Nat) (x y:Pq),P[i]? = some x->P'[i]? = some y->Eo x y)/\C=C'
def Oq(P:List Pq)(C:List ChV)(T:List NdT)(P':List Pq)(C':List ChV)(T':List NdT):Prop:=Mw P C P' C'/\T.length=T'.length/\(∀(i:Nat) (x y:NdT),T[i]? = some x->T'[i]? = some y->sameN x.l y.l=true)
open Classical in
noncomputable def Mf(P:List Pq)(C:List ChV)(P':List Pq)(C':List ChV):Bool:=decide (Mw P C P' C')
open Classical in
noncomputable def K7(P:List Pq)(C:List ChV)(T:List NdT)(P':List Pq)(C':List ChV)(T':List NdT):Bool:=decide (Oq P C T P' C' T')
theorem eg{P:List Pq}{C:List ChV}{P':List Pq}{C':List ChV}(h:Mw P C P' C'):Mf P C P' C'=true:=by unfold Mf;classical exact Ae h
theorem jl{P:List Pq}{C:List ChV}{P':List Pq}{C':List ChV}(h:¬ Mw P C P' C'):Mf P C P' C'=false:=by unfold Mf;classical exact Ac h
theorem Pz{P:List Pq}{C:List ChV}{T:List NdT}{P':List Pq}{C':List ChV}{T':List NdT}(h:Oq P C T P' C' T'):K7 P C T P' C' T'=true:=by unfold K7;classical exact Ae h
theorem Z6{P:List Pq}{C:List ChV}{T:List NdT}{P':List Pq}{C':List ChV}{T':List NdT}(h:¬ Oq P C T P' C' T'):K7 P C T P' C' T'=false:=by unfold K7;classical exact Ac h
theorem aq(A1 A2 A3 E1 E2 E3:Option Addr)(n1 n2 n3 c1 c2 c3 m1 m2 m3 d1 d2 d3:Nat)(P P':List Pq)(C C':List ChV)(w:World)(hP:RdB pcq w w.heap.size A1 n1 P)(hC:RdB cc w w.heap.size A2 n2 C)(bN:RdB pcq w w.heap.size E1 m1 P')(bO:RdB cc w w.heap.size E2 m2 C')
  (hp:∀ x∈P,RdB prc w w.heap.size x.1.pa x.1.pn x.2/\x.1.pn<=140737488351232) (bL:∀ x∈P',RdB prc w w.heap.size x.1.pa x.1.pn x.2) (q1:n1<=140737488351232) (q2:n2<=140737488351232) :
  Calls Tryz.prog 50 #[.agg #[.slice A1 n1 c1,.slice A2 n2 c2,.slice A3 n3 c3],.agg #[.slice E1 m1 d1,.slice E2 m2 d2,.slice E3 m3 d3]] w (Ans (.bool (Mf P C P' C')) w):=by
 have g0:=bl1 w (.cells #[.slice A1 n1 c1,.slice A2 n2 c2,.slice A3 n3 c3] 31);have g1:=g0.trans ((bl1 _ (.cells #[.slice E1 m1 d1,.slice E2 m2 d2,.slice E3 m3 d3] 31)).mono g0.size);have aD:=hid (fun h=>jl h:¬ Mw P C P' C'->Mf P C P' C'=false);have aA:=hid (fun h=>eg h:Mw P C P' C'->Mf P C P' C'=true);generalize Mf P C P' C'=v at aD aA |-;have HB:=hid g1;have HP:=hid hP;have HC:=hid hC;have bJ:=hid bN;have bK:=hid bO;have bY:=hid hp;have bI:=hid bL;clear g0 g1 hP hC bN bO hp bL;go_in;by_cases k1:n1=m1
 case neg =>
  have bT:((n1:Int) != (m1:Int))=true:=Bz.2 (by omega);have HV:=hid (aD.o fun h=>k1 (by rw[<- HP.o.len,<- bJ.o.len];exact h.1));clear aD aA k1;go_wp2;go_ret;exact Ans.mk (by rw[HV.o];rfl) HB.o
 by_cases k2:n2=m2
 case neg =>
  have bT:((n2:Int) != (m2:Int))=true:=Bz.2 (by omega);have HV:=hid (aD.o fun h=>k2 (by rw[<- HC.o.len,<- bK.o.len,h.2.2]));clear aD aA k2;subst k1;go_wp2;go_ret;exact Ans.mk (by rw[HV.o];rfl) HB.o
 subst k1 k2;go_wp2_with fail;have o0:((w.alloc (.cells #[.slice A1 n1 c1,.slice A2 n2 c2,.slice A3 n3 c3] 31)).alloc (.cells #[.slice E1 n1 d1,.slice E2 n2 d2,.slice E3 m3 d3] 31)).cell? ⟨w.heap.size,0,none⟩=some (.slice A1 n1 c1):=by
  rw[(bl1 _ _).cell (by simp)];exact Ab _ _ _ _ _
 have o1:((w.alloc (.cells #[.slice A1 n1 c1,.slice A2 n2 c2,.slice A3 n3 c3] 31)).alloc (.cells #[.slice E1 n1 d1,.slice E2 n2 d2,.slice E3 m3 d3] 31)).cell? ⟨w.heap.size,1,none⟩=some (.slice A2 n2 c2):=by
  rw[(bl1 _ _).cell (by simp)];exact Ab _ _ _ _ _
 have e:(w.alloc (.cells #[.slice A1 n1 c1,.slice A2 n2 c2,.slice A3 n3 c3] 31)).heap.size=w.heap.size+1:=by simp
 have p0:((w.alloc (.cells #[.slice A1 n1 c1,.slice A2 n2 c2,.slice A3 n3 c3] 31)).alloc (.cells #[.slice E1 n1 d1,.slice E2 n2 d2,.slice E3 m3 d3] 31)).cell? ⟨w.heap.size+1,0,none⟩=some (.slice E1 n1 d1):=by
  rw[<- e];exact Ab _ _ _ _ _
 have p1:((w.alloc (.cells #[.slice A1 n1 c1,.slice A2 n2 c2,.slice A3 n3 c3] 31)).alloc (.cells #[.slice E1 n1 d1,.slice E2 n2 d2,.slice E3 m3 d3] 31)).cell? ⟨w.heap.size+1,1,none⟩=some (.slice E2 n2 d2):=by
  rw[<- e];exact Ab _ _ _ _ _
 have bC:w.heap.size+1 < ((w.alloc (.cells #[.slice A1 n1 c1,.slice A2 n2 c2,.slice A3 n3 c3] 31)).alloc (.cells #[.slice E1 n1 d1,.slice E2 n2 d2,.slice E3 m3 d3] 31)).heap.size:=by simp
 clear e;generalize (w.alloc (.cells #[.slice A1 n1 c1,.slice A2 n2 c2,.slice A3 n3 c3] 31)).alloc (.cells #[.slice E1 n1 d1,.slice E2 n2 d2,.slice E3 m3 d3] 31)=W at HB o0 o1 p0 p1 bC |-;obtain⟨g,hg⟩:∃ g,g=w.heap.size:=⟨_,rfl⟩;rw[<- hg] at o0 o1 p0 p1 bC |-;have HG:=hid hg;clear hg;obtain⟨g2,bE⟩:∃ g2,g2=g+1:=⟨_,rfl⟩;rw[<- bE] at p0 p1 bC |-;have cC:=hid bE;have bU:g < W.heap.size:=by omega
 clear bE;have O0:=hid o0;have O1:=hid o1;have P0:=hid p0;have P1:=hid p1;have HM:=hid fun(W':World) (hb:Below W.heap.size W W') (o:Nat) (v:Value) (hv:W.cell? ⟨g,o,none⟩=some v)=>(hb.cell (p:=⟨g,o,none⟩) bU).trans hv;have bR:=hid fun(W':World) (hb:Below W.heap.size W W') (o:Nat) (v:Value) (hv:W.cell? ⟨g2,o,none⟩=some v)=>(hb.cell (p:=⟨g2,o,none⟩) bC).trans hv;have HW:=hid fun(W':World) (hb:Below W.heap.size W W')=>HB.o.trans (hb.mono HB.o.size);clear o0 o1 p0 p1;go_loopw [5,26] (fun _ s wr=>∃ i:Nat,i<=n1/\s=.int .i64 i/\(∀ k,k < i->∀ x y,P[k]? = some x->P'[k]? = some y->Eo x y)/\Below W.heap.size W wr) (fun _ s _=>n1 - (intOf s).toNat)
 case atStart=>exact⟨0,by omega,rfl,fun k hk=>by omega,Aj _ _⟩
 obtain⟨i,hi,rfl,aT,hb⟩:=hrel;have aC:=hid aT;clear aT;by_cases aU:i < n1
 ·have m0:=HM.o wr hb 0 _ O0.o;have cA:=bR.o wr hb 0 _ P0.o;obtain⟨ad,x,rfl,bF,hx,c0,ck⟩:=(HP.o.on (HW.o _ hb)).at_ Fv (by omega) aU;have cs:∀ k v,0 < k->(pcl x.1)[k]? = some v->wr.cell? ⟨(ad.add (i*11)).block,(ad.add (i*11)).off+k,none⟩=some v:=ck;have c1:=cs 1 _ (by omega) rfl;have c2:=cs 2 _ (by omega) rfl;have c3:=cs 3 _ (by omega) rfl;have c4:=cs 4 _ (by omega) rfl;have c5:=cs 5 _ (by omega) rfl;have c6:=cs 6 _ (by omega) rfl;have c7:=cs 7 _ (by omega) rfl;have c8:=cs 8 _ (by omega) rfl;have c9:=cs 9 _ (by omega) rfl;have bX:=cs 10 _ (by omega) rfl;have c0:=c0 _ rfl;obtain⟨bG,y,rfl,aF,hy,e0,ek⟩:=(bJ.o.on (HW.o _ hb)).at_ Fv (by omega) aU;have es:∀ k v,0 < k->(pcl y.1)[k]? = some v->wr.cell? ⟨(bG.add (i*11)).block,(bG.add (i*11)).off+k,none⟩=some v:=ek;have e1:=es 1 _ (by omega) rfl;have e2:=es 2 _ (by omega) rfl;have e3:=es 3 _ (by omega) rfl;have e4:=es 4 _ (by omega) rfl;have e5:=es 5 _ (by omega) rfl;have e6:=es 6 _ (by omega) rfl;have e7:=es 7 _ (by omega) rfl;have e8:=es 8 _ (by omega) rfl;have e9:=es 9 _ (by omega) rfl;have bW:=es 10 _ (by omega) rfl;have e0:=e0 _ rfl;have bH:=bY.o x (An hx);have bP:=bI.o y (An hy);have aY:=hid fun(W':World) (bM:Below w.heap.size w W')=>Uk x y W' (bH.1.on bM) (bP.on bM) bH.2;have aH:Hd (Eo x y->∀ k,k < i+1->∀ x y,P[k]? = some x->P'[k]? = some y->Eo x y):=hid fun h=>F7 (p:=fun k=>∀ x y,P[k]? = some x->P'[k]? = some y->Eo x y) aC.o fun x' y' bB bA=>by
   rw[hx] at bB;rw[hy] at bA;injection bB with bB;injection bA with bA;subst bB bA;exact h
  have aK:Hd (¬ Eo x y->v=false):=hid fun h=>aD.o fun k=>h (k.2.1 i x y hx hy);obtain⟨⟨nm,bu,pe,sc,st,pa,pn,pc,h0,h1,h2,h3,h4⟩,L⟩:=x;obtain⟨⟨aR,aX,aO,aM,st2,aQ,aN,aP,k0,k1,k2,k3,k4⟩,M⟩:=y;dsimp only at c0 c1 c2 c3 c4 c5 c6 c7 c8 c9 bX e0 e1 e2 e3 e4 e5 e6 e7 e8 e9 bW aY;have aJ:=hid (HW.o _ hb);have aZ:=hid hb;have HD:Hd (decide (Eo (⟨nm,bu,pe,sc,st,pa,pn,pc,h0,h1,h2,h3,h4⟩,L) (⟨aR,aX,aO,aM,st2,aQ,aN,aP,k0,k1,k2,k3,k4⟩,M))=true->Eo (⟨nm,bu,pe,sc,st,pa,pn,pc,h0,h1,h2,h3,h4⟩,L) (⟨aR,aX,aO,aM,st2,aQ,aN,aP,k0,k1,k2,k3,k4⟩,M)):=hid Dk;have bD:Hd (decide (Eo (⟨nm,bu,pe,sc,st,pa,pn,pc,h0,h1,h2,h3,h4⟩,L) (⟨aR,aX,aO,aM,st2,aQ,aN,aP,k0,k1,k2,k3,k4⟩,M))=false->¬ Eo (⟨nm,bu,pe,sc,st,pa,pn,pc,h0,h1,h2,h3,h4⟩,L) (⟨aR,aX,aO,aM,st2,aQ,aN,aP,k0,k1,k2,k3,k4⟩,M)):=hid of_decide_eq_false;generalize decide (Eo (⟨nm,bu,pe,sc,st,pa,pn,pc,h0,h1,h2,h3,h4⟩,L) (⟨aR,aX,aO,aM,st2,aQ,aN,aP,k0,k1,k2,k3,k4⟩,M))=q at aY HD bD;clear ck ek hx hy bF aF bH bP aC cs es hb;go_wp2_with fail;go_region_with (go_at_call 84;refine(aY.o _ (by first | exact aJ.o | exact aJ.o.drew | exact Below.drewN aJ.o _)).mono ?_;rintro e w5⟨rfl,aL⟩)
  all_goals
   have aV:Below wr.heap.size wr w5:=⟨aL.os,aL.tape,aL.output,aL.size,aL.block⟩;have bS:=hid aV;clear aL aV;cases q
   ·have HV:=hid (aK.o (bD.o rfl));clear aK aH HD bD aY aD aA;go_wp2;go_ret;exact Ans.mk (by rw[HV.o];rfl) (aJ.o.trans (bS.o.mono aJ.o.size))
   have aG:=hid (aH.o (HD.o rfl));clear aK aH HD bD aY;go_wp2;go_roundw
   case rel=>exact⟨i+1,by omega,by go_num,aG.o,aZ.o.trans (bS.o.mono aZ.o.size)⟩
   simp[intOf];omega
 have bV:n1<=i:=by omega
 have m1:=HM.o wr hb 1 _ O1.o;have bQ:Hd (∀(i:Nat) (x y:Pq),P[i]? = some x->P'[i]? = some y->Eo x y):=hid fun k x y hx hy=>aC.o k (by have:=(Af.1 hx).1;have:=HP.o.len;omega) x y hx hy;have aI:Hd (¬ C=C'->v=false):=hid fun h=>aD.o fun k=>h k.2.2;have aB:Hd (C=C'->v=true):=hid fun h=>aA.o ⟨by rw[HP.o.len,bJ.o.len],bQ.o,h⟩;clear aD aA bQ aC;go_wp2;go_loopw [6,45] (fun _ s wr=>∃ i:Nat,i<=n2/\s=.int .i64 i/\(∀ k,k < i->C[k]? = C'[k]?)/\Below W.heap.size W wr) (fun _ s _=>n2 - (intOf s).toNat)
 case atStart=>exact⟨0,by omega,rfl,fun k hk=>by omega,hb⟩
 obtain⟨i,hi,rfl,aT,hb⟩:=hrel;have aC:=hid aT;clear aT;by_cases aU:i < n2
 ·have m1:=HM.o wr hb 1 _ O1.o;have bZ:=bR.o wr hb 1 _ P1.o;obtain⟨ad,x,rfl,bF,hx,c0,ck⟩:=(HC.o.on (HW.o _ hb)).at_ Gk (by omega) aU;have c1:=ck 1 _ (by omega) rfl;have c2:=ck 2 _ (by omega) rfl;have c3:=ck 3 _ (by omega) rfl;have c4:=ck 4 _ (by omega) rfl;have c5:=ck 5 _ (by omega) rfl;have c0:=c0 _ rfl;obtain⟨bG,y,rfl,aF,hy,e0,ek⟩:=(bK.o.on (HW.o _ hb)).at_ Gk (by omega) aU;have e1:=ek 1 _ (by omega) rfl;have e2:=ek 2 _ (by omega) rfl;have e3:=ek 3 _ (by omega) rfl;have e4:=ek 4 _ (by omega) rfl;have e5:=ek 5 _ (by omega) rfl;have e0:=e0 _ rfl;have aE:=fun W=>jh x y W;have aH:Hd (x=y->∀ k,k < i+1->C[k]? = C'[k]?):=hid fun h=>F7 (p:=fun k=>C[k]? = C'[k]?) aC.o (by rw[hx,hy,h]);have aK:Hd (¬ x=y->v=false):=hid fun h=>aI.o fun k=>h (by rw[k,hy] at hx;injection hx with hx;exact hx.symm);obtain⟨xf,xt,xq,xc,xm,xl⟩:=x;obtain⟨yf,yt,yq,yc,ym,yl⟩:=y;dsimp only at c0 c1 c2 c3 c4 c5 e0 e1 e2 e3 e4 e5 aE;have aZ:=hid hb;clear ck ek hx hy bF aF aC hb;by_cases hE:(⟨xf,xt,xq,xc,xm,xl⟩:ChV)=⟨yf,yt,yq,yc,ym,yl⟩
  ·rw[Ae hE] at aE;have aE:∀ W,(binOp .neq 66 (.agg #[.int .i64 xf,.int .i64 xt,.bool xq,.int .i64 xc,.int .u32 xm,.int .i64 xl]) (.agg #[.int .i64 yf,.int .i64 yt,.bool yq,.int .i64 yc,.int .u32 ym,.int .i64 yl])).run Tryz.prog W=.ok (.bool false) W:=aE;have aG:=hid (aH.o hE);clear aH aK hE;go_wp2_with fail;go_quiet (fail);go_wp2;go_roundw
   case rel=>exact⟨i+1,by omega,by go_num,aG.o,Below.drewN aZ.o nq⟩
   simp[intOf];omega
  rw[Ac hE] at aE;have aE:∀ W,(binOp .neq 66 (.agg #[.int .i64 xf,.int .i64 xt,.bool xq,.int .i64 xc,.int .u32 xm,.int .i64 xl]) (.agg #[.int .i64 yf,.int .i64 yt,.bool yq,.int .i64 yc,.int .u32 ym,.int .i64 yl])).run Tryz.prog W=.ok (.bool true) W:=aE;have HV:=hid (aK.o hE);have aJ:=hid (HW.o _ aZ.o);clear aH aK hE aI aB;go_wp2_with fail;go_quiet (fail);go_wp2;go_ret;exact Ans.mk (by rw[HV.o];rfl) (Below.drewN aJ.o nq)
 have bV:n2<=i:=by omega
 have HV:=hid (aB.o (List.ext_getElem? fun k=>by
  rcases Bk k i with h5 | h5
  ·exact aC.o k h5
  rw[Bw (by rw[HC.o.len];omega),Bw (by rw[bK.o.len];omega)]))
 clear aC aI aB;go_wp2;go_ret;exact Ans.mk (by rw[HV.o];rfl) (HW.o _ hb)
theorem Qui.one{P:Program}{f:FuncId}{args:Array Value}{w:World}{n:Nat}{v:Value}(h:Calls P f args (w.drewN n) (Qui v (w.drewN n))):Calls P f args (w.drewN n) fun e w''=>e=.returned v/\∃ m,w''=w.drewN m :=
 h.mono fun _ _ ⟨he,m,hm⟩=>⟨he,n+m,by rw[hm,World.drewN_drewN]⟩
theorem Ul(A1 A2 A3 E1 E2 E3:Option Addr)(n1 n2 n3 c1 c2 c3 m1 m2 m3 d1 d2 d3:Nat)(P P':List Pq)(C C':List ChV)(T T':List NdT)(w:World)(hP:RdB pcq w w.heap.size A1 n1 P)(hC:RdB cc w w.heap.size A2 n2 C)(hT:RdB tcn w w.heap.size A3 n3 T)(bC:RdB pcq w w.heap.size E1 m1 P')(bD:RdB cc w w.heap.size E2 m2 C')(bB:RdB tcn w w.heap.size E3 m3 T')
  (hp:∀ x∈P,RdB prc w w.heap.size x.1.pa x.1.pn x.2/\x.1.pn<=140737488351232) (aX:∀ x∈P',RdB prc w w.heap.size x.1.pa x.1.pn x.2) (ht:∀ t∈T,Ls w w.heap.size t) (aV:∀ t∈T',Ls w w.heap.size t) (q1:n1<=140737488351232) (q2:n2<=140737488351232) (q3:n3<=140737488351232) :
  Calls Tryz.prog 20 #[.agg #[.slice A1 n1 c1,.slice A2 n2 c2,.slice A3 n3 c3],.agg #[.slice E1 m1 d1,.slice E2 m2 d2,.slice E3 m3 d3]] w (Ans (.bool (K7 P C T P' C' T')) w):=by
 have g0:=bl1 w (.cells #[.slice A1 n1 c1,.slice A2 n2 c2,.slice A3 n3 c3] 31);have g1:=g0.trans ((bl1 _ (.cells #[.slice E1 m1 d1,.slice E2 m2 d2,.slice E3 m3 d3] 31)).mono g0.size);have aB:=hid (fun h=>Z6 h:¬ Oq P C T P' C' T'->K7 P C T P' C' T'=false);have aA:=hid (fun h=>Pz h:Oq P C T P' C' T'->K7 P C T P' C' T'=true);generalize K7 P C T P' C' T'=v at aB aA |-;have HB:=hid g1;have HT:=hid hT;have aR:=hid bB;have bI:=hid ht;have aQ:=hid aV;have aK:=hid fun(W':World) (hb:Below w.heap.size w W')=>aq A1 A2 A3 E1 E2 E3 n1 n2 n3 c1 c2 c3 m1 m2 m3 d1 d2 d3 P P' C C' W' (hP.on hb) (hC.on hb) (bC.on hb) (bD.on hb) (fun x hx=>⟨(hp x hx).1.on hb,(hp x hx).2⟩) (fun x hx=>(aX x hx).on hb) q1 q2;have aM:Hd (Mf P C P' C'=true->Mw P C P' C'):=hid fun h=>by
  unfold Mf at h
  classical exact Dk h
 have aL:Hd (Mf P C P' C'=false->¬ Mw P C P' C'):=hid fun h=>by
  unfold Mf at h
  classical exact of_decide_eq_false h
 generalize Mf P C P' C'=q at aK aM aL;clear g0 g1 hP hC bC bD hp aX hT bB ht aV;go_in;have o0:∀(k:Nat) (v:Value),(#[Value.slice A1 n1 c1,.slice A2 n2 c2,.slice A3 n3 c3]:Array Value)[k]? = some v->((w.alloc (.cells #[.slice A1 n1 c1,.slice A2 n2 c2,.slice A3 n3 c3] 31)).alloc (.cells #[.slice E1 m1 d1,.slice E2 m2 d2,.slice E3 m3 d3] 31)).cell? ⟨w.heap.size,k,none⟩=some v:=by
  intro k v hv;rw[(bl1 _ _).cell (by simp)];exact(Ab _ _ _ _ _).trans hv
 have e:(w.alloc (.cells #[.slice A1 n1 c1,.slice A2 n2 c2,.slice A3 n3 c3] 31)).heap.size=w.heap.size+1:=by simp
 have p0:∀(k:Nat) (v:Value),(#[Value.slice E1 m1 d1,.slice E2 m2 d2,.slice E3 m3 d3]:Array Value)[k]? = some v->((w.alloc (.cells #[.slice A1 n1 c1,.slice A2 n2 c2,.slice A3 n3 c3] 31)).alloc (.cells #[.slice E1 m1 d1,.slice E2 m2 d2,.slice E3 m3 d3] 31)).cell? ⟨w.heap.size+1,k,none⟩=some v:=by
  intro k v hv;rw[<- e];exact(Ab _ _ _ _ _).trans hv
 have aH:w.heap.size+1 < ((w.alloc (.cells #[.slice A1 n1 c1,.slice A2 n2 c2,.slice A3 n3 c3] 31)).alloc (.cells #[.slice E1 m1 d1,.slice E2 m2 d2,.slice E3 m3 d3] 31)).heap.size:=by simp
 clear e;have O:=hid o0;have P0:=hid p0;clear o0 p0;go_wp2_with fail;refine(aK.o _ HB.o).mono ?_;rintro e w2⟨rfl,aO⟩;generalize (w.alloc (.cells #[.slice A1 n1 c1,.slice A2 n2 c2,.slice A3 n3 c3] 31)).alloc (.cells #[.slice E1 m1 d1,.slice E2 m2 d2,.slice E3 m3 d3] 31)=W at HB O P0 aH aO;obtain⟨g,hg⟩:∃ g,g=w.heap.size:=⟨_,rfl⟩;rw[<- hg] at O P0 aH |-;have HG:=hid hg;clear hg;obtain⟨g2,aN⟩:∃ g2,g2=g+1:=⟨_,rfl⟩;rw[<- aN] at P0 aH |-;have bP:=hid aN;have bG:g < W.heap.size:=by omega
 clear aN;have HM:=hid fun(W':World) (hb:Below W.heap.size W W') (o:Nat) (v:Value) (hv:(#[Value.slice A1 n1 c1,.slice A2 n2 c2,.slice A3 n3 c3]:Array Value)[o]? = some v)=>(hb.cell (p:=⟨g,o,none⟩) bG).trans (O.o o v hv);have bF:=hid fun(W':World) (hb:Below W.heap.size W W') (o:Nat) (v:Value) (hv:(#[Value.slice E1 m1 d1,.slice E2 m2 d2,.slice E3 m3 d3]:Array Value)[o]? = some v)=>(hb.cell (p:=⟨g2,o,none⟩) aH).trans (P0.o o v hv);have HW:=hid fun(W':World) (hb:Below W.heap.size W W')=>HB.o.trans (hb.mono HB.o.size);have H2:=hid aO;clear O P0 aO;cases q
 ·have HV:=hid (aB.o fun h=>aL.o rfl h.1);clear aB aA aM aL aK;go_wp2;go_ret;exact Ans.mk (by rw[HV.o];rfl) (HW.o _ H2.o)
 have bK:=hid (aM.o rfl);clear aM aL aK;have a2:=HM.o w2 H2.o 2 _ rfl;have b2:=bF.o w2 H2.o 2 _ rfl;by_cases k1:n3=m3
 case neg =>
  have bM:((n3:Int) != (m3:Int))=true:=Bz.2 (by omega);have HV:=hid (aB.o fun h=>k1 (by rw[<- HT.o.len,<- aR.o.len];exact h.2.1));clear aB aA k1;go_wp2;go_ret;exact Ans.mk (by rw[HV.o];rfl) (HW.o _ H2.o)
 subst k1;go_wp2;clear a2 b2;go_loopw [5,22] (fun _ s wr=>∃ i:Nat,i<=n3/\s=.int .i64 i/\(∀ k,k < i->∀ x y,T[k]? = some x->T'[k]? = some y->sameN x.l y.l=true)/\Below W.heap.size W wr) (fun _ s _=>n3 - (intOf s).toNat)
 case atStart=>exact⟨0,by omega,rfl,fun k hk=>by omega,H2.o⟩
 obtain⟨i,hi,rfl,aY,hb⟩:=hrel;have aI:=hid aY;clear aY;by_cases aZ:i < n3
 ·have m0:=HM.o wr hb 2 _ rfl;have bL:=bF.o wr hb 2 _ rfl;obtain⟨ad,x,rfl,bH,hx,c0,ck⟩:=(HT.o.on (HW.o _ hb)).at_ Hm (by omega) aZ;have c0:=c0 _ rfl;obtain⟨bO,y,rfl,aP,hy,e0,ek⟩:=(aR.o.on (HW.o _ hb)).at_ Hm (by omega) aZ;have e0:=e0 _ rfl;rw[Cj] at c0 e0;have aT:=bI.o x (An hx);have bE:=aQ.o y (An hy);have aC:=hid fun(W':World) (bA:Below w.heap.size w W')=>Km x.A y.A x.n y.n x.c y.c x.l y.l W' (aT.rd.on bA) (bE.rd.on bA) aT.few;have aD:Hd (sameN x.l y.l=true->∀ k,k < i+1->∀ x y,T[k]? = some x->T'[k]? = some y->sameN x.l y.l=true):=hid fun h=>F7 (p:=fun k=>∀ x y,T[k]? = some x->T'[k]? = some y->sameN x.l y.l=true) aI.o fun x' y' aG aF=>by
   rw[hx] at aG;rw[hy] at aF;injection aG with aG;injection aF with aF;subst aG aF;exact h
  have aE:Hd (sameN x.l y.l=false->v=false):=hid fun h=>aB.o fun k=>by rw[k.2.2 i x y hx hy] at h;cases h
  obtain⟨A,n,c,l⟩:=x;obtain⟨A',n',c',l'⟩:=y;dsimp only at c0 e0 aC aD aE;have aJ:=hid (HW.o _ hb);have bJ:=hid hb;generalize sameN l l'=q at aC aD aE;clear ck ek hx hy bH aP aT bE aI hb;go_wp2_with fail;go_quiet ((go_at_call 21;exact Qui.one (aC.o _ (by first | exact aJ.o | exact aJ.o.drew | exact Below.drewN aJ.o _))));cases q
  ·have HV:=hid (aE.o rfl);clear aE aD aC aB aA;go_wp2;go_ret;exact Ans.mk (by rw[HV.o];rfl) (Below.drewN aJ.o nq)
  have aU:=hid (aD.o rfl);clear aE aD aC;go_wp2;go_roundw
  case rel=>exact⟨i+1,by omega,by go_num,aU.o,Below.drewN bJ.o nq⟩
  simp[intOf];omega
 have bN:n3<=i:=by omega
 have HV:=hid (aA.o ⟨bK.o,by rw[HT.o.len,aR.o.len],fun k x y hx hy=>aI.o k (by have:=(Af.1 hx).1;have:=HT.o.len;omega) x y hx hy⟩);clear aI aB aA;go_wp2;go_ret;exact Ans.mk (by rw[HV.o];rfl) (HW.o _ hb)
structure Cf where
 A1:Option Addr
 A2:Option Addr
 A3:Option Addr
 n1:Nat
 n2:Nat
 n3:Nat
 c1:Nat
 c2:Nat
 c3:Nat
 P:List Pq
 C:List ChV
 T:List NdT
abbrev cfv(x:Cf):Value:=.agg #[.slice x.A1 x.n1 x.c1,.slice x.A2 x.n2 x.c2,.slice x.A3 x.n3 x.c3]
def Qak(x:Cf):Prop:=x.n1*104<=140737488351232/\x.n2*48<=140737488351232/\x.n3*24<=140737488351232/\(∀ y∈x.P,y.1.pn*16<=140737488351232)/\∀ y∈x.T,y.n*24<=140737488351232
structure CfR(w:World)(x:Cf):Prop where
 pp:RdB pcq w w.heap.size x.A1 x.n1 x.P
 ch:RdB cc w w.heap.size x.A2 x.n2 x.C
 tb:RdB tcn w w.heap.size x.A3 x.n3 x.T
 pt:∀ y∈x.P,Ro w w.heap.size y/\y.1.pn<=y.1.pc/\y.1.pn<=140737488351232
 tt:∀ y∈x.T,Ls w w.heap.size y
 k1:x.n1<=x.c1
 k2:x.n2<=x.c2
 k3:x.n3<=x.c3
 m1:x.n1<=140737488351232
 m2:x.n2<=140737488351232
 m3:x.n3<=140737488351232
 z:Qak x
theorem CfR.on{w w':World}{x:Cf}(h:CfR w x)(hb:Below w.heap.size w w'):CfR w' x :=
 ⟨h.pp.on hb,h.ch.on hb,h.tb.on hb,fun y hy=>⟨(h.pt y hy).1.on hb,(h.pt y hy).2⟩,fun y hy=>(h.tt y hy).on hb,h.k1,h.k2,h.k3,h.m1,h.m2,h.m3,h.z⟩
noncomputable def whF(x:Cf):Int×Int:=D5 x.P x.C x.T
def Tm(x y:Cf):Prop:=Oq x.P x.C x.T y.P y.C y.T
theorem Eo.symm{x y:Pq}(h:Eo x y):Eo y x:=by
 obtain⟨h1,h2,h3,h4,h5,⟨h6,h7,h8,h9,aB⟩,aA⟩:=h;exact⟨h1.symm,h2.symm,h3.symm,h4.symm,h5.symm,⟨h6.symm,h7.symm,h8.symm,h9.symm,aB.symm⟩,aA.symm⟩
theorem Eo.refl(x:Pq):Eo x x:=⟨rfl,rfl,rfl,rfl,rfl,⟨rfl,rfl,rfl,rfl,rfl⟩,rfl⟩
theorem lp{x y:Nd}(h:ndEq x y=true):x=y:=by
 obtain⟨a,b,c⟩:=x;obtain⟨d,e,f⟩:=y;unfold ndEq at h;simp at h;obtain⟨⟨h1,h2⟩,h3⟩:=h;subst h1 h2 h3;rfl
theorem Nu:∀ {a b:List Nd},sameN a b=true->a=b
 | [],[],_=>rfl
 | [],_::_,h=>by simp[sameN] at h
 | _::_,[],h=>by simp[sameN] at h
 | x::a,y::b,h=>by
  simp only[sameN,Au] at h
  rw[lp h.1,Nu h.2]
theorem Fw:∀ a:List Nd,sameN a a=true
 | []=>rfl
 | x::a=>by simp[sameN,ndEq,Fw a]
theorem Tm.symm{x y:Cf}(h:Tm x y):Tm y x:=by
 obtain⟨⟨h1,h2,h3⟩,h4,h5⟩:=h;exact⟨⟨h1.symm,fun i a b ha hb=>(h2 i b a hb ha).symm,h3.symm⟩,h4.symm,fun i a b ha hb=>by rw[Nu (h5 i b a hb ha)];exact Fw _⟩
theorem Tm.refl(x:Cf):Tm x x:=⟨⟨rfl,fun i a b ha hb=>by rw[ha] at hb;injection hb with hb;subst hb;exact Eo.refl a,rfl⟩,rfl,fun i a b ha hb=>by rw[ha] at hb;injection hb with hb;subst hb;exact Fw _⟩
theorem CfR.rsame{w:World}{x y:Cf}(hx:CfR w x)(hy:CfR w y):Calls Tryz.prog 20 #[cfv x,cfv y] w (Ans (.bool (K7 x.P x.C x.T y.P y.C y.T)) w) :=
 Ul x.A1 x.A2 x.A3 y.A1 y.A2 y.A3 x.n1 x.n2 x.n3 x.c1 x.c2 x.c3 y.n1 y.n2 y.n3 y.c1 y.c2 y.c3 x.P y.P x.C y.C x.T y.T w hx.pp hx.ch hx.tb hy.pp hy.ch hy.tb (fun z hz=>⟨(hx.pt z hz).1.procs,(hx.pt z hz).2.2⟩) (fun z hz=>(hy.pt z hz).1.procs) hx.tt hy.tt hx.m1 hx.m2 hx.m3
structure CfO(w:World)(B:Nat)(x:Cf):Prop where
 pp:OwnV 60 11 w B x.A1 x.n1 x.c1 (x.P.flatMap pcq)
 ch:OwnV 66 6 w B x.A2 x.n2 x.c2 (x.C.flatMap cc)
 tb:OwnV 34 1 w B x.A3 x.n3 x.c3 (x.T.flatMap tcn)
 pt:∀ y∈x.P,OwnV 62 2 w B y.1.pa y.1.pn y.1.pc (y.2.flatMap prc)/\∀ k,obk y.1.pa=some k->obk x.A1≠some k/\obk x.A2≠some k/\obk x.A3≠some k
 tt:∀ y∈x.T,OwnV 54 3 w B y.A y.n y.c (ns y.l)/\∀ k,obk y.A=some k->obk x.A1≠some k/\obk x.A2≠some k/\obk x.A3≠some k
 d12:∀ k,obk x.A1=some k->obk x.A2≠some k
 d13:∀ k,obk x.A1=some k->obk x.A3≠some k
 d23:∀ k,obk x.A2=some k->obk x.A3≠some k
 dp:∀(i j:Nat) (a b:Pq),x.P[i]? = some a->x.P[j]? = some b->i≠j->∀ k,obk a.1.pa=some k->obk b.1.pa≠some k
 dt:∀(i j:Nat) (a b:NdT),x.T[i]? = some a->x.T[j]? = some b->i≠j->∀ k,obk a.A=some k->obk b.A≠some k
 dq:∀(i j:Nat) (a:Pq) (b:NdT),x.P[i]? = some a->x.T[j]? = some b->∀ k,obk a.1.pa=some k->obk b.A≠some k
theorem Hg{f:Nat->Int}{n i:Nat}(h:Iw f n=some i):f i≠0:=by
 have:=List.find?_some h;simpa using this
theorem Jm{f:Nat->Int}{n:Nat}(h:Iw f n=none):∀ j,j < n->f j=0:=fun j hj=>by
 have:=List.find?_eq_none.1 h j (Cx.2 hj)
 simpa using this
theorem db{x y:Pq}(h:Eo x y)(j:Nat):hv5 x.1 j=hv5 y.1 j:=by
 obtain⟨_,_,_,_,_,⟨h0,h1,h2,h3,h4⟩,_⟩:=h;unfold hv5;rw[h0,h1,h2,h3,h4]
theorem Uw{x y:Pq}(h:Eo x y)(hx:x.2.length=x.1.pn)(hy:y.2.length=y.1.pn):Fg x.1 x.2=Fg y.1 y.2:=by
 have e:x.1.pn=y.1.pn:=by rw[<- hx,<- hy,h.2.2.2.2.2.2]
 have e2:(fun j=>hlF (hv5 x.1 j))=fun j=>hlF (hv5 y.1 j):=funext fun j=>by rw[db h j]
 unfold Fg;rw[e,e2,h.2.2.2.2.2.2,h.2.1,h.2.2.1]
section
variable {P P':List Pq}
theorem Yn(hl:P.length=P'.length)(hs:∀(i:Nat) (x y:Pq),P[i]? = some x->P'[i]? = some y->Eo x y):P.map (fun z=>z.1.name)=P'.map (fun z=>z.1.name):=by
 apply List.ext_getElem?;intro i;rw[Bm,Bm];rcases Bk i P.length with h | h
 ·rw[Am h,Am (by omega:i < P'.length)];exact congrArg some (hs i _ _ (Am h) (Am (by omega:i < P'.length))).1
 rw[Bw h,Bw (by omega)]
theorem Tk(l:List Pq)(s:ByteArray):l.any (fun y=>decide (y.1.name=s))=(l.map (fun z=>z.1.name)).any (fun m=>decide (m=s)):=by
 rw[List.any_map];rfl
theorem ar(hl:P.length=P'.length)(hs:∀(i:Nat) (x y:Pq),P[i]? = some x->P'[i]? = some y->Eo x y)(h1:∀ x∈P,x.2.length=x.1.pn)(h2:∀ x∈P',x.2.length=x.1.pn):ptE P=ptE P':=by
 funext i;unfold ptE;rcases Bk i P.length with h | h
 ·have e1:=Am h;have e2:=Am (by omega:i < P'.length);have aA:=hs i _ _ e1 e2;rw[e1,e2];show ptW P i _=ptW P' i _;unfold ptW;rw[Tk,Tk,List.map_take,List.map_take,Yn hl hs,aA.1,Uw aA (h1 _ (List.getElem_mem h)) (h2 _ (List.getElem_mem _))]
 rw[Bw h,Bw (by omega)]
theorem Mo(W:List Int):∀(l l':List PtV) (i:Nat),l.map (fun x=>(x.bud,x.per))=l'.map (fun x=>(x.bud,x.per))->Ev W i l=Ev W i l'
 | [],[],_,_=>rfl
 | [],_::_,_,h=>by simp at h
 | _::_,[],_,h=>by simp at h
 | x::l,y::l',i,h=>by
  simp only[Cp,List.cons.injEq,Prod.mk.injEq] at h
  obtain⟨⟨hb,hp⟩,h⟩:=h
  simp only[Ev,Fb,hb,hp,Mo W l l' (i+1) h]
theorem jp(hl:P.length=P'.length)(hs:∀(i:Nat) (x y:Pq),P[i]? = some x->P'[i]? = some y->Eo x y):(P.map Prod.fst).map (fun x=>(x.bud,x.per))=(P'.map Prod.fst).map (fun x=>(x.bud,x.per)):=by
 apply List.ext_getElem?;intro i;rw[Bm,Bm,Bm,Bm];rcases Bk i P.length with h | h
 ·have aA:=hs i _ _ (Am h) (Am (by omega:i < P'.length));rw[Am h,Am (by omega:i < P'.length)];show some (_,_)=some (_,_);rw[aA.2.1,aA.2.2.1]
 rw[Bw h,Bw (by omega)]
theorem Zt(C:List ChV)(hl:P.length=P'.length)(hs:∀(i:Nat) (x y:Pq),P[i]? = some x->P'[i]? = some y->Eo x y)(l:List Nd):tbW P C l=tbW P' C l:=by
 unfold tbW E4;rw[hl,Mo _ _ _ 0 (jp hl hs)]
end
theorem CfR.lens{w:World}{x:Cf}(h:CfR w x):∀ y∈x.P,y.2.length=y.1.pn:=fun y hy=>(h.pt y hy).1.procs.len
theorem Ru{x y:Cf}(h:Tm x y)(hx:∀ z∈x.P,z.2.length=z.1.pn)(hy:∀ z∈y.P,z.2.length=z.1.pn):whF x=whF y:=by
 obtain⟨⟨h1,h2,h3⟩,h4,h5⟩:=h;have e1:=ar h1 h2 hx hy;have e2:tbE x.P x.C x.T=tbE y.P y.C y.T:=by
  funext i;unfold tbE;rcases Bk i x.T.length with h | h
  ·rw[Am h,Am (by omega:i < y.T.length)];show tbW _ _ _=tbW _ _ _;rw[Nu (h5 i _ _ (Am h) (Am (by omega:i < y.T.length))),Zt x.C h1 h2,h3]
  rw[Bw h,Bw (by omega)]
 have e3:chE x.C x.P.length=chE y.C y.P.length:=by rw[h1,h3]
 have e4:Eu x.P x.C x.T↔Eu y.P y.C y.T:=by unfold Eu;rw[h1,h3,h4]
 unfold whF D5;by_cases hz:Eu x.P x.C x.T
 ·rw[if_pos hz,if_pos (e4.1 hz),e1,e2,e3,h1,h3,h4]
 rw[if_neg hz,if_neg (fun k=>hz (e4.2 k))]
structure RiX(x:Cf):Prop where
 sz:Eu x.P x.C x.T
 pt:∀ j,j < x.P.length->ptE x.P j=0
 ch:∀ j,j < x.C.length->chE x.C x.P.length j=0
 tb:∀ t∈x.T,tbW x.P x.C t.l=0
theorem RiX.ok{x:Cf}(h:RiX x):whF x=(0,-1) :=
 Hs h.sz h.pt h.ch fun j hj=>by
  rw[Np (Am hj)]
  exact h.tb _ (List.getElem_mem hj)
theorem RiX.of{x:Cf}(h:(whF x).1=0):RiX x:=by
 unfold whF D5 at h;split at h
 ·rename_i hs;split at h
  ·rename_i i hi;exact absurd h (Hg hi)
  rename_i hp;split at h
  ·rename_i i hi;exact absurd h (Hg hi)
  rename_i hc;split at h
  ·rename_i i hi;exact absurd h (Hg hi)
  rename_i ht;refine⟨hs,Jm hp,Jm hc,fun t hm=>?_⟩;obtain⟨i,hi⟩:=Bl hm;rw[<- Np hi];exact Jm ht i (Af.1 hi).1
 exact absurd h (by decide)
