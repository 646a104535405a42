import Derived.Test.YtfmndmhjjbeokaaGreatDoorLow38
set_option maxHeartbeats 16000000
set_option maxRecDepth 100000
set_option linter.unusedSimpArgs false
set_option linter.unusedVariables false
namespace Go.Proofs.YtfmndmhjjbeokaaGreatDoor
open Go.RowKit Tab Txt
def PhQ{α:Type}(Br g gc b2 b3:Nat)(A:Option Addr)(W0:World)(F:α×Option (List UInt8)->World->Prop)(y:α×Option (List UInt8))(W:World):Prop :=
 Qce Br g y.2 W/\KpG g gc A W0 W/\(W.cell? ⟨b2,0,none⟩=some (.pointer (some ⟨g,0,none⟩))/\W.cell? ⟨b3,0,none⟩=some (.pointer (some ⟨gc,0,none⟩)))/\F y W
structure LnA(g gc b2 b3:Nat)(A:Option Addr)(W0:World):Prop where
 n1:g≠gc
 n2:b2≠gc/\b3≠gc
 n3:obk A≠some g/\obk A≠some b2/\obk A≠some b3
 lt:∀ k,obk A=some k->k < W0.heap.size
 lc:gc < W0.heap.size
 l2:b2 < W0.heap.size/\b3 < W0.heap.size
theorem PhQ.keep{α:Type}{Br g gc b2 b3:Nat}{A:Option Addr}{W0:World}{F:α×Option (List UInt8)->World->Prop}(ha:LnA g gc b2 b3 A W0)(hF:∀ y w w',W0.heap.size<=w.heap.size->KpR gc A w w'->F y w->F y w'):∀ y w w',KpR gc A w w'->PhQ Br g gc b2 b3 A W0 F y w->PhQ Br g gc b2 b3 A W0 F y w':=fun y w w' hk ⟨h1,h2,⟨h3,h4⟩,h5⟩=>by
 have:=h2.size
 have q:=ha.l2
 refine⟨hk.own h1 (by intro e;injection e with e;exact ha.n1 e) (fun k e=>by injection e with e;subst e;exact ha.n3.1),h2.trans (KpG.kpr hk),⟨?_,?_⟩,hF y w w' h2.size hk h5⟩
 ·rw[Er (hk.block b2 (by omega) ha.n2.1 ha.n3.2.1)];exact h3
 ·rw[Er (hk.block b3 (by omega) ha.n2.2 ha.n3.2.2)];exact h4
theorem LnS.a{B Br g gc b2 b3:Nat}{x:Cf}{w W:World}{st:Option (List UInt8)}{A:Option Addr}(h:LnS B Br g gc b2 b3 x w st W)(hA:A=x.A1\/A=x.A2\/A=x.A3):LnA g gc b2 b3 A W:=by
 have q2:=h.l2;have q3:=h.l3;have q:=h.lg;have hs:=h.gb.size;have aA:∀ k,obk A=some k->k < w.heap.size:=fun k hk=>h.la k (by rcases hA with rfl | rfl | rfl <;> simp[hk]);have aB:obk A≠some g:=by
  rcases hA with rfl | rfl | rfl
  ·exact Ee h.cv.s.pp.own h.rd (by decide)
  ·exact Ee h.cv.s.ch.own h.rd (by decide)
  exact Ee h.cv.s.tb.own h.rd (by decide)
 refine⟨fun e=>?_,⟨by omega,by omega⟩,⟨aB,fun e=>?_,fun e=>?_⟩,fun k hk=>by have:=aA k hk;omega,by omega,⟨q2.2,q3.2⟩⟩
 ·exact OwnV.apart h.rd h.cv.s.cf (by decide) g rfl (by rw[e];rfl)
 ·have:=aA _ e;omega
 have:=aA _ e;omega
def PaQ(W0:World)(R:Option (Pq×List UInt8))(y:Pq×Option (List UInt8))(W:World):Prop:=OwnV 62 2 W W0.heap.size y.1.1.pa y.1.1.pn y.1.1.pc (y.1.2.flatMap prc)/\y.1.1.name.size<=1048576/\Ef y.1.1.per/\y.1.2.length=y.1.1.pn/\y.1.1.pn<=1048577/\Got R (Ec y.1) y.2
def ChQ(R:Option (ChV×List UInt8))(y:ChV×Option (List UInt8))(W:World):Prop:=∃ z,Got R z y.2/\y.1=⟨z.from_,z.to_,z.queue,z.cap,z.max % 4294967296,z.late⟩
def TaQ(W0:World)(R:Option (List Nd×List UInt8))(y:NdT×Option (List UInt8))(W:World):Prop:=OwnV 54 3 W W0.heap.size y.1.A y.1.n y.1.c (ns y.1.l)/\y.1.l.length=y.1.n/\y.1.n<=128/\Got R y.1.l y.2
theorem Su{E s n c gc:Nat}{A A1:Option Addr}{l:List Value}{W0 w w':World}(ho:OwnV E s w W0.heap.size A1 n c l)(hk:KpR gc A w w')(hg:gc < W0.heap.size)(hA:∀ k,obk A=some k->k < W0.heap.size):OwnV E s w' W0.heap.size A1 n c l :=
 hk.own ho (fun e=>by have:=OwnV.obk_ge ho e;omega) fun k aA e=>by have:=OwnV.obk_ge ho aA;have:=hA k e;omega
theorem j9:(bsOf wPart).toList=[112,97,114,116]:=by kernel_rfl
theorem kd:(bsOf wChan).toList=[99,104,97,110]:=by kernel_rfl
theorem cw:(bsOf wTable).toList=[116,97,98,108,101]:=by kernel_rfl
theorem Xm{B Br g gc:Nat}{s:List UInt8}{w:World}{x:Cf}{c:Cft}(h:Qce Br g (some s) w)(hl:s.length<=1048576)(hc:CvS B gc x w)(hB:B<=w.heap.size)(hx:Ctn x c)(bL:x.n1+(x.n2+x.n3)<=100000):
  Calls Tryz.prog 43 #[.pointer (some ⟨g,0,none⟩),.pointer (some ⟨gc,0,none⟩)] w (kj B Br g gc (lineS c s) x w):=by
 have bU:=hid (LnS.start h hc);have HX:=hid hx;have HL:=hid hl;have bP:=hid hB;have aK:=hid bL;have H0:=bU;clear bU;by_cases h0:s=[]
 ·have HE:=hid (Hc H0.o.rd (by rw[Bq];exact h0));have HR:Hd (lineS c s=some (c,[])/\some s=some []\/lineS c s=none/\some s=none):=hid (.inl ⟨by unfold lineS;rw[if_pos (.inl h0)],by rw[h0]⟩);generalize lineS c s=R at HR |-;clear h hc hx hB bL hl h0;go_in;obtain⟨_,_,k2,k3,_⟩:=H0.o;go_wp2_with fail;refine HE.o.mono ?_;rintro e w1⟨rfl,rfl⟩;go_wp2_with fail
  first | go_end0 | refine Be (Cn rfl _ _ _) rfl ?_
  exact H0.o.same HX.o HR.o
 by_cases h1:s.head? = some 35
 ·obtain⟨r,hr⟩:=fq h0 h1;have HE:=hid (by obtain⟨a,b,e⟩:∃ a b,s=a::b:=(match s,h0 with | a::b,_=>⟨a,b,rfl⟩);exact Gf (show Qce Br g (some (a::b)) _ from e▸H0.o.rd));have HT:=hid fun W (hh:Qce Br g (some s) W)=>Fc hh 35 35 rfl hr;have HR:Hd (lineS c s=some (c,[])):=hid (by unfold lineS;rw[if_pos (.inr h1)]);generalize lineS c s=R at HR |-;clear h hc hx hB bL hl h0 h1 hr;go_in;obtain⟨_,_,k2,k3,_⟩:=H0.o;go_wp2_with fail;refine HE.o.mono ?_;rintro e w1⟨rfl,rfl⟩;go_wp2_with fail;refine(HT.o _ H0.o.rd).mono ?_;rintro e w2⟨rfl,hm⟩;have H1:=hid (H0.o.step hm);clear hm HT k2 k3;obtain⟨aP,_,k2,k3,_⟩:=H1.o;obtain⟨m0,m1,f0,f1,_,_⟩:=aP.cells;have H2:=hid (H1.o.step (Rpo.set0 aP r [] rfl));clear aP;go_wp2_with fail
  first | go_end0 | refine Be (Cn rfl _ _ _) rfl ?_
  exact H2.o.same HX.o (.inl ⟨HR.o,rfl⟩)
 have HE:=hid (by obtain⟨a,b,e⟩:∃ a b,s=a::b:=(match s,h0 with | a::b,_=>⟨a,b,rfl⟩);exact Gf (show Qce Br g (some (a::b)) _ from e▸H0.o.rd));have HT:=hid (Fj H0.o.rd 35 35 rfl (Zu h1));have HU:=hid fun W (hh:Qce Br g (some s) W)=>Js hh (by rw[Bq];omega) 32 32 rfl;have aQ:Hd ((behindT (isB 32) s).length<=1048576):=hid (Ai (behind_le _ _) hl);have bS:lineS c s=if aheadT (isB 32) s=wPart then (partS (behindT (isB 32) s)).map fun x=>(⟨c.P++[x.1],c.C,c.T⟩,x.2)
   else if aheadT (isB 32) s=wChan then (chanS (namesP c.P) (behindT (isB 32) s)).map fun x=>(⟨c.P,c.C++[x.1],c.T⟩,x.2)
   else if aheadT (isB 32) s=wTable then (tabS (namesP c.P) (behindT (isB 32) s)).map fun x=>(⟨c.P,c.C,c.T++[x.1]⟩,x.2) else none:=by
  unfold lineS;rw[if_neg (by simp[h0,h1])]
 rw[bS];rw[show (some s).map (behindT (isB 32))=some (behindT (isB 32) s) from rfl,Bq] at HU;obtain⟨A1,A2,A3,n1,n2,n3,c1,c2,c3,P,C,T⟩:=x;have bM:Hd (namesP P=namesP c.P):=hid hx.names;dsimp only at aK;have q1:((bsOf (aheadT (isB 32) s)).toList == [112,97,114,116])=decide (aheadT (isB 32) s=wPart):=Hb _ _ j9;have q2:((bsOf (aheadT (isB 32) s)).toList == [99,104,97,110])=decide (aheadT (isB 32) s=wChan):=Hb _ _ kd;have q3:((bsOf (aheadT (isB 32) s)).toList == [116,97,98,108,101])=decide (aheadT (isB 32) s=wTable):=Hb _ _ cw;clear h hc hx hB bL hl h0 h1 bS;generalize aheadT (isB 32) s=wd at HU q1 q2 q3 |-;generalize behindT (isB 32) s=rs at HU aQ |-;generalize bsOf wd=sv at HU q1 q2 q3;by_cases hp:wd=wPart
 ·rw[if_pos hp];have p1:(sv.toList == [112,97,114,116])=true:=by rw[q1,Ae hp]
  clear q1 q2 q3 hp;go_in;obtain⟨_,_,k2,k3,_⟩:=H0.o;go_wp2_with fail;refine HE.o.mono ?_;rintro e w1⟨rfl,rfl⟩;go_wp2_with fail;refine HT.o.mono ?_;rintro e w2⟨rfl,hm⟩;have H1:=hid (H0.o.step hm);clear hm HT k2 k3;obtain⟨_,_,k2,k3,_⟩:=H1.o;go_wp2_with fail;refine(HU.o _ H1.o.rd).mono ?_;rintro e W2⟨rfl,hm⟩;have H2:=hid (H1.o.step hm);clear hm HU k2 k3;have aY:Hd (((some rs).getD []).length<=1048576):=aQ;have aB:Hd (B<=W2.drew.heap.size):=hid (by have:=bP.o;have:=H2.o.gb.size;show B<=W2.heap.size;omega);have aA:=hid (H2.o.step (st':=some rs) ⟨OwnV.below H2.o.rd rfl (Aj _ _).drew,Ho (Aj _ _).drew⟩);have K0:Hd (W2.drew.cell? ⟨w.heap.size,0,none⟩=some (.pointer (some ⟨g,0,none⟩))/\W2.drew.cell? ⟨w.heap.size+1,0,none⟩=some (.pointer (some ⟨gc,0,none⟩))):=hid ⟨aA.o.k2,aA.o.k3⟩;have aL:=hid (aA.o.a (A:=A1) (.inl rfl));have aG:=hid (PhQ.keep (Br:=Br) (F:=PaQ W2.drew ((some rs).bind partS)) aL.o fun y v v' hs hk hf=>⟨Su hf.1 hk aL.o.lc aL.o.lt,hf.2⟩);obtain⟨_,_,k2,k3,_⟩:=H2.o;go_upto_region 7 with fail;clear k2 k3;generalize bG:W2.drew=W0 at aB aA K0 aL aG;refine Rgs.region (w0:=W2) (by kernel_rfl) (by kernel_rfl) (fun(bA:Nat) (vl:Value) (_:World)=>match bA with | 0=>vl=.pointer (some ⟨gc,0,none⟩) | 1=>vl=.pointer (some ⟨gc,0,none⟩) | 2=>vl=.pointer (some ⟨gc,0,none⟩) | 3=>vl=.pointer (some ⟨gc,0,none⟩) | 4=>vl=.slice A1 n1 c1 | 5=>vl=.pointer (some ⟨g,0,none⟩) | 9=>vl=.pointer (some ⟨gc,0,none⟩) | 10=>vl=.pointer (some ⟨gc,0,none⟩) | _=>True) (ApG (fun y:Pq×Option (List UInt8)=>pv y.1.1) (fun y=>pcq y.1) (PhQ Br g gc w.heap.size (w.heap.size+1) A1 W0 (PaQ W0 ((some rs).bind partS))) W0 60 11 31 3 B gc [.slice A1 n1 c1,.slice A2 n2 c2,.slice A3 n3 c3] 0 B A1 n1 c1 (P.flatMap pcq) 6 7 8 11 23 24 25) ⟨fun _=>bG,fun e=>absurd e (by decide)⟩ (Rgs.steps_of ?_) ?_
  ·refine⟨?_,?_,?_,?_,?_,?_,?_,?_,?_,?_,?_,?_,trivial⟩<;>intro a w1 live S E D C' h0 hk hW
   ·have e3:a.eval _=.pointer (some ⟨w.heap.size+1,0,none⟩):=E 3 rfl;have aI:=D3 C' h0 [9,10] 11 rfl;have hb:=(hW.phi (fun W=>W.cell? ⟨w.heap.size,0,none⟩=some (.pointer (some ⟨g,0,none⟩))/\W.cell? ⟨w.heap.size+1,0,none⟩=some (.pointer (some ⟨gc,0,none⟩))) K0.o (fun y W h=>h.2.2.1)).2;exact Dw hW.up
   ·have e3:a.eval _=.pointer (some ⟨w.heap.size+1,0,none⟩):=E 3 rfl;have aI:=D3 C' h0 [2,3,4,8] 11 rfl;have hb:=(hW.phi (fun W=>W.cell? ⟨w.heap.size,0,none⟩=some (.pointer (some ⟨g,0,none⟩))/\W.cell? ⟨w.heap.size+1,0,none⟩=some (.pointer (some ⟨gc,0,none⟩))) K0.o (fun y W h=>h.2.2.1)).2;exact Dw hW.up
   ·have d1:_=_:=rgsDe D 1;exact Dw hW.up
   ·have d2:_=_:=rgsDe D 2;exact Dw hW.up
   ·have d3:_=_:=rgsDe D 3;have aI:=D3 C' h0 [8] 11 rfl;have hc:=(hW.cellC aI aA.o.cv.s.cf 0 _ rfl).1;exact Dw hW.up
   ·have e2:a.eval _=.pointer (some ⟨w.heap.size,0,none⟩):=E 2 rfl;have aI:=D3 C' h0 [6,7,8] 11 rfl;have hb:=(hW.phi (fun W=>W.cell? ⟨w.heap.size,0,none⟩=some (.pointer (some ⟨g,0,none⟩))/\W.cell? ⟨w.heap.size+1,0,none⟩=some (.pointer (some ⟨gc,0,none⟩))) K0.o (fun y W h=>h.2.2.1)).1;exact Dw hW.up
   ·have d5:_=_:=rgsDe D 5;have l7:=D3 C' h0 [] 7 rfl;have l8:=D3 C' l7 [] 8 rfl;have aI:=D3 C' l8 [] 11 rfl;have bB:w1=W0:=hW.pre h0;refine Ei 73 #[.pointer (some ⟨g,0,none⟩)] ?_ (by have c:=Reg.consts a;generalize a.eval=ρ at *;simp[execOp,go_sem,c.1,c.2,d5]);rw[bB];refine((Xk aA.o.rd aY.o)).mono ?_;rintro e w5⟨nm,bv,pw,f1,f2,a0,a1,a2,a3,a4,Lp,aZ,Ap,np,cp,rfl,cD,i1,i2,aX,bD,aV,hg,h5⟩;have bF:KpG g gc A1 W0 w5:=KpG.gb h5.gb;have aF:=aA.o.step h5;exact⟨_,rfl,trivial,hW.made h0 l7 l8 aI (by decide) (by rw[S];exact(by decide:23 < 61)) ((⟨bsOf nm,bv,pw,f1,f2,Ap,np,cp,a0,a1,a2,a3,a4⟩,Lp),aZ) ⟨h5.rd,bF,⟨aF.k2,aF.k3⟩,⟨aV,by rw[bs_size];omega,i2,aX,bD,hg⟩⟩ h5.gb.size aF.cv.s.pp.own aF.cv.s.cf,fun jq vq _ hq=>hq⟩
   ·have l8:=D3 C' h0 [] 8 rfl;have aI:=D3 C' l8 [] 11 rfl;have lc:live 6=true:=hk 6 rfl;obtain⟨x,hv,aC⟩:=hW.lit aG.o lc l8 aI (by decide) (by rw[S];exact(by decide:24 < 61)) (by decide);refine Fd (.slice (some ⟨w1.heap.size,0,none⟩) 1 1) (w1.alloc (.cells #[.string x.1.1.name,.int .i64 x.1.1.bud,.int .i64 x.1.1.per,.bool x.1.1.sched,.bool x.1.1.stop,.slice x.1.1.pa x.1.1.pn x.1.1.pc,.int .i64 x.1.1.h0,.int .i64 x.1.1.h1,.int .i64 x.1.1.h2,.int .i64 x.1.1.h3,.int .i64 x.1.1.h4] 60)) trivial aC (fun j v _ h=>h) ?_;have bC:a.eval (.tmp 23)=.agg #[.string x.1.1.name,.int .i64 x.1.1.bud,.int .i64 x.1.1.per,.bool x.1.1.sched,.bool x.1.1.stop,.slice x.1.1.pa x.1.1.pn x.1.1.pc,.int .i64 x.1.1.h0,.int .i64 x.1.1.h1,.int .i64 x.1.1.h2,.int .i64 x.1.1.h3,.int .i64 x.1.1.h4]:=hv;have c:=Reg.consts a;generalize a.eval=ρ at *;simp[execOp,go_sem,c.1,c.2,bC]
   ·have d4:_=_:=rgsDe D 4;have aI:=D3 C' h0 [] 11 rfl;have lb:live 7=true:=hk 7 rfl;have lc:live 6=true:=C' _ _ rfl lb 6 rfl;obtain⟨gb,qb,A',c',w',aM,aC⟩:=hW.app mf aG.o lc lb h0 aI (by decide) (by rw[S];exact(by decide:25 < 61)) (by decide) (fun y=>Fv y.1) (fun y=>kh y.1) (by decide) (by have:=aK.o;omega) (by have:=aK.o;omega) aB.o;refine Fd (.slice A' (n1+1:Nat) c') w' trivial aC (fun j v _ h=>h) ?_;have cc:=Reg.consts a;generalize a.eval=ρ at *;simp only[execOp,resolve,invoke,builtin,Sem.run_bind,Sem.run_pure,At,Cs,Cp,Da,d4,qb,aM]
   ·have d0:_=_:=rgsDe D 0;exact Dw hW.up
   ·have d9:_=_:=rgsDe D 9;exact Dw hW.up
   have cA:_=_:=rgsDe D 10;have la:live 8=true:=hk 8 rfl;have lb:live 7=true:=C' _ _ rfl la 7 rfl;have lc:live 6=true:=C' _ _ rfl lb 6 rfl;obtain⟨A',c',qa,aC⟩:=hW.put aG.o lc la h0 (by decide) (by decide) (by decide);have hc:=hW.cellC h0 aA.o.cv.s.cf 0 _ rfl;have bR:=hc.1;have bQ:=hc.2;exact Jc (w1.setCell ⟨gc,0,none⟩ (.slice A' (n1+1:Nat) c')) trivial aC (fun j v _ h=>h)
  intro a w9 live hs hd E Dv Hl hW;obtain⟨x9,r1,aO,r2,r3,r4,r5,r6,aD⟩:=hW.res (Hl 6 (by decide));obtain⟨A9,c9,aT,aN,aR⟩:=aD (Hl 11 (by decide));have aU:=hid aO;have bK:=hid aT;have bJ:=hid aR;rw[Rgs.act_ws a _ _ hs hd E [17,18,19,20,21,22,23,24,25,26,27] (by kernel_rfl)];simp only[List.foldl,Bg,Bv,Bp];clear r1 r2 r3 r4 r5 r6 E Dv Hl hW aO aT aN aR aD
  generalize a.eval=ρ9;clear a hs hd;have bI:Hd (KpL g gc ⟨A1,A2,A3,n1,n2,n3,c1,c2,c3,P,C,T⟩ w w9):=hid (KpL.of ((KpG.gb aA.o.gb).trans aU.o.2.1) (.inl rfl));go_wp2_with fail
  first | go_end0 | refine Be (Cn rfl _ _ _) rfl ?_
  obtain⟨aP,bE,_,aV,cC,bO,aX,bD,aJ⟩:=aU.o;obtain⟨g1,g2⟩:=aJ;rw[As] at g1 g2;refine⟨rfl,x9.2,?_,aP,bI.o,fun c' r e=>?_⟩
  ·rw[g1,Option.map_map];rfl
  cases hz:partS rs with
  | none=>rw[hz] at e;cases e
  | some z =>
   rw[hz] at e;injection e with e;injection e with e1 e2;have hy:=g2 z hz;refine⟨_,aA.o.cv.part1 aA.o.rd bE x9.1 bK.o bJ.o (OwnV.weak aV aB.o) ⟨bO,by omega,aX,by omega⟩ (by have:=aK.o;omega),?_,by show n1+1+(n2+n3)<=n1+(n2+n3)+1;omega⟩;rw[<- e1];refine⟨?_,HX.o.ec,HX.o.et⟩;show (P++[x9.1]).map Ec=c.P++[z.1];rw[De,show P.map Ec=c.P from HX.o.ep,<- hy];rfl
 rw[if_neg hp];have p1:(sv.toList == [112,97,114,116])=false:=by rw[q1,Ac hp]
 by_cases hc:wd=wChan
 ·rw[if_pos hc];have p2:(sv.toList == [99,104,97,110])=true:=by rw[q2,Ae hc]
  clear q1 q2 q3 hp hc;go_in;obtain⟨_,_,k2,k3,_⟩:=H0.o;go_wp2_with fail;refine HE.o.mono ?_;rintro e w1⟨rfl,rfl⟩;go_wp2_with fail;refine HT.o.mono ?_;rintro e w2⟨rfl,hm⟩;have H1:=hid (H0.o.step hm);clear hm HT k2 k3;obtain⟨_,_,k2,k3,_⟩:=H1.o;go_wp2_with fail;refine(HU.o _ H1.o.rd).mono ?_;rintro e W2⟨rfl,hm⟩;have H2:=hid (H1.o.step hm);clear hm HU k2 k3;have aY:Hd (((some rs).getD []).length<=1048576):=aQ;have aB:Hd (B<=W2.drew.heap.size):=hid (by have:=bP.o;have:=H2.o.gb.size;show B<=W2.heap.size;omega);have aA:=hid (H2.o.step (st':=some rs) ⟨OwnV.below H2.o.rd rfl (Aj _ _).drew,Ho (Aj _ _).drew⟩);have K0:Hd (W2.drew.cell? ⟨w.heap.size,0,none⟩=some (.pointer (some ⟨g,0,none⟩))/\W2.drew.cell? ⟨w.heap.size+1,0,none⟩=some (.pointer (some ⟨gc,0,none⟩))):=hid ⟨aA.o.k2,aA.o.k3⟩;have aL:=hid (aA.o.a (A:=A2) (.inr (.inl rfl)));have aG:=hid (PhQ.keep (Br:=Br) (F:=ChQ ((some rs).bind (chanS (namesP P)))) aL.o fun y v v' hs hk hf=>hf);obtain⟨_,_,k2,k3,_⟩:=H2.o;go_upto_region 9 with fail;clear k2 k3;generalize bG:W2.drew=W0 at aB aA K0 aL aG;refine Rgs.region (w0:=W2) (by kernel_rfl) (by kernel_rfl) (fun(bA:Nat) (vl:Value) (_:World)=>match bA with | 0=>vl=.pointer (some ⟨gc,0,none⟩) | 1=>vl=.pointer (some ⟨gc,0,none⟩) | 2=>vl=.pointer (some ⟨gc,0,none⟩) | 3=>vl=.pointer (some ⟨gc,1,none⟩) | 4=>vl=.slice A2 n2 c2 | 5=>vl=.pointer (some ⟨g,0,none⟩) | 6=>vl=.pointer (some ⟨gc,0,none⟩) | 7=>vl=.pointer (some ⟨gc,0,none⟩) | 8=>vl=.pointer (some ⟨gc,0,none⟩) | 9=>vl=.slice A1 n1 c1 | 13=>vl=.pointer (some ⟨gc,0,none⟩) | 14=>vl=.pointer (some ⟨gc,1,none⟩) | _=>True) (ApG (fun y:ChV×Option (List UInt8)=>cv y.1) (fun y=>cc y.1) (PhQ Br g gc w.heap.size (w.heap.size+1) A2 W0 (ChQ ((some rs).bind (chanS (namesP P))))) W0 66 6 31 3 B gc [.slice A1 n1 c1,.slice A2 n2 c2,.slice A3 n3 c3] 1 B A2 n2 c2 (C.flatMap cc) 10 11 12 15 40 41 42) ⟨fun _=>bG,fun e=>absurd e (by decide)⟩ (Rgs.steps_of ?_) ?_
  ·refine⟨?_,?_,?_,?_,?_,?_,?_,?_,?_,?_,?_,?_,?_,?_,?_,?_,trivial⟩<;>intro a w1 live S E D C' h0 hk hW
   ·have e3:a.eval _=.pointer (some ⟨w.heap.size+1,0,none⟩):=E 3 rfl;have aH:=D3 C' h0 [13,14] 15 rfl;have hb:=(hW.phi (fun W=>W.cell? ⟨w.heap.size,0,none⟩=some (.pointer (some ⟨g,0,none⟩))/\W.cell? ⟨w.heap.size+1,0,none⟩=some (.pointer (some ⟨gc,0,none⟩))) K0.o (fun y W h=>h.2.2.1)).2;exact Dw hW.up
   ·have e3:a.eval _=.pointer (some ⟨w.heap.size+1,0,none⟩):=E 3 rfl;have aH:=D3 C' h0 [2,3,4,12] 15 rfl;have hb:=(hW.phi (fun W=>W.cell? ⟨w.heap.size,0,none⟩=some (.pointer (some ⟨g,0,none⟩))/\W.cell? ⟨w.heap.size+1,0,none⟩=some (.pointer (some ⟨gc,0,none⟩))) K0.o (fun y W h=>h.2.2.1)).2;exact Dw hW.up
   ·have d1:_=_:=rgsDe D 1;exact Dw hW.up
   ·have d2:_=_:=rgsDe D 2;exact Dw hW.up
   ·have d3:_=_:=rgsDe D 3;have aH:=D3 C' h0 [12] 15 rfl;have hc:=(hW.cellC aH aA.o.cv.s.cf 1 _ rfl).1;exact Dw hW.up
   ·have e2:a.eval _=.pointer (some ⟨w.heap.size,0,none⟩):=E 2 rfl;have aH:=D3 C' h0 [10,11,12] 15 rfl;have hb:=(hW.phi (fun W=>W.cell? ⟨w.heap.size,0,none⟩=some (.pointer (some ⟨g,0,none⟩))/\W.cell? ⟨w.heap.size+1,0,none⟩=some (.pointer (some ⟨gc,0,none⟩))) K0.o (fun y W h=>h.2.2.1)).1;exact Dw hW.up
   ·have e3:a.eval _=.pointer (some ⟨w.heap.size+1,0,none⟩):=E 3 rfl;have aH:=D3 C' h0 [7,8,9,10,11,12] 15 rfl;have hb:=(hW.phi (fun W=>W.cell? ⟨w.heap.size,0,none⟩=some (.pointer (some ⟨g,0,none⟩))/\W.cell? ⟨w.heap.size+1,0,none⟩=some (.pointer (some ⟨gc,0,none⟩))) K0.o (fun y W h=>h.2.2.1)).2;exact Dw hW.up
   ·have d6:_=_:=rgsDe D 6;exact Dw hW.up
   ·have d7:_=_:=rgsDe D 7;exact Dw hW.up
   ·have d8:_=_:=rgsDe D 8;have aH:=D3 C' h0 [10,11,12] 15 rfl;have hc:=(hW.cellC aH aA.o.cv.s.cf 0 _ rfl).1;exact Dw hW.up
   ·have d5:_=_:=rgsDe D 5;have d9:_=_:=rgsDe D 9;have aI:=D3 C' h0 [] 11 rfl;have aE:=D3 C' aI [] 12 rfl;have aH:=D3 C' aE [] 15 rfl;have bB:w1=W0:=hW.pre h0;refine Ei 74 #[.pointer (some ⟨g,0,none⟩),.slice A1 n1 c1] ?_ (by have c:=Reg.consts a;generalize a.eval=ρ at *;simp[execOp,go_sem,c.1,c.2,d5,d9]);rw[bB];refine((Xq aA.o.rd aY.o A1 n1 c1 P (fun W hW=>((aA.o.cv).rdr aA.o.rd hW).s.pp.rdb) (by have:=aK.o;omega))).mono ?_;rintro e w5⟨z,aZ,rfl,i1,hg,h5⟩;have bF:KpG g gc A2 W0 w5:=KpG.gb h5.gb;have aF:=aA.o.step h5;exact⟨_,rfl,trivial,hW.made h0 aI aE aH (by decide) (by rw[S];exact(by decide:40 < 61)) ((⟨z.from_,z.to_,z.queue,z.cap,z.max % 4294967296,z.late⟩:ChV),aZ) ⟨h5.rd,bF,⟨aF.k2,aF.k3⟩,⟨z,hg,rfl⟩⟩ h5.gb.size aF.cv.s.ch.own aF.cv.s.cf,fun jq vq _ hq=>hq⟩
   ·have aE:=D3 C' h0 [] 12 rfl;have aH:=D3 C' aE [] 15 rfl;have lc:live 10=true:=hk 10 rfl;obtain⟨x,hv,aC⟩:=hW.lit aG.o lc aE aH (by decide) (by rw[S];exact(by decide:41 < 61)) (by decide);refine Fd (.slice (some ⟨w1.heap.size,0,none⟩) 1 1) (w1.alloc (.cells #[.int .i64 x.1.from_,.int .i64 x.1.to_,.bool x.1.queue,.int .i64 x.1.cap,.int .u32 x.1.max,.int .i64 x.1.late] 66)) trivial aC (fun j v _ h=>h) ?_;have bC:a.eval (.tmp 40)=.agg #[.int .i64 x.1.from_,.int .i64 x.1.to_,.bool x.1.queue,.int .i64 x.1.cap,.int .u32 x.1.max,.int .i64 x.1.late]:=hv;have c:=Reg.consts a;generalize a.eval=ρ at *;simp[execOp,go_sem,c.1,c.2,bC]
   ·have d4:_=_:=rgsDe D 4;have aH:=D3 C' h0 [] 15 rfl;have lb:live 11=true:=hk 11 rfl;have lc:live 10=true:=C' _ _ rfl lb 10 rfl;obtain⟨gb,qb,A',c',w',aM,aC⟩:=hW.app jb aG.o lc lb h0 aH (by decide) (by rw[S];exact(by decide:42 < 61)) (by decide) (fun y=>rfl) (fun y=>i_cc y.1) (by decide) (by have:=aK.o;omega) (by have:=aK.o;omega) aB.o;refine Fd (.slice A' (n2+1:Nat) c') w' trivial aC (fun j v _ h=>h) ?_;have cc:=Reg.consts a;generalize a.eval=ρ at *;simp only[execOp,resolve,invoke,builtin,Sem.run_bind,Sem.run_pure,At,Cs,Cp,Da,d4,qb,aM]
   ·have d0:_=_:=rgsDe D 0;exact Dw hW.up
   ·have d13:_=_:=rgsDe D 13;exact Dw hW.up
   have cE:_=_:=rgsDe D 14;have la:live 12=true:=hk 12 rfl;have lb:live 11=true:=C' _ _ rfl la 11 rfl;have lc:live 10=true:=C' _ _ rfl lb 10 rfl;obtain⟨A',c',qa,aC⟩:=hW.put aG.o lc la h0 (by decide) (by decide) (by decide);have hc:=hW.cellC h0 aA.o.cv.s.cf 1 _ rfl;have bR:=hc.1;have bQ:=hc.2;exact Jc (w1.setCell ⟨gc,1,none⟩ (.slice A' (n2+1:Nat) c')) trivial aC (fun j v _ h=>h)
  intro a w9 live hs hd E Dv Hl hW;obtain⟨x9,r1,aO,r2,r3,r4,r5,r6,aD⟩:=hW.res (Hl 10 (by decide));obtain⟨A9,c9,aT,aN,aR⟩:=aD (Hl 15 (by decide));have aU:=hid aO;have bK:=hid aT;have bJ:=hid aR;rw[Rgs.act_ws a _ _ hs hd E [30,31,32,33,34,35,36,37,38,39,40,41,42,43,44] (by kernel_rfl)];simp only[List.foldl,Bg,Bv,Bp];clear r1 r2 r3 r4 r5 r6 E Dv Hl hW aO aT aN aR aD
  generalize a.eval=ρ9;clear a hs hd;have bI:Hd (KpL g gc ⟨A1,A2,A3,n1,n2,n3,c1,c2,c3,P,C,T⟩ w w9):=hid (KpL.of ((KpG.gb aA.o.gb).trans aU.o.2.1) (.inr (.inl rfl)));go_wp2_with fail
  first | go_end0 | refine Be (Cn rfl _ _ _) rfl ?_
  obtain⟨aP,bE,_,zz,aJ,bV⟩:=aU.o;obtain⟨g1,g2⟩:=aJ;rw[As] at g1 g2;refine⟨rfl,x9.2,?_,aP,bI.o,fun c' r e=>?_⟩
  ·rw[g1,<- bM.o,Option.map_map];rfl
  rw[<- bM.o] at e;cases hz:chanS (namesP P) rs with
  | none=>rw[hz] at e;cases e
  | some z =>
   rw[hz] at e;injection e with e;injection e with e1 e2;have hy:=g2 z hz;have hm:=chanS_max hz;rw[<- hy] at hm;have aO:x9.1=z.1:=by
    rw[bV,<- hy];have:zz.max % 4294967296=zz.max:=by unfold lim32 at hm;omega
    rw[this]
   refine⟨_,aA.o.cv.chan1 aA.o.rd bE x9.1 bK.o bJ.o (by have:=aK.o;omega),?_,by show n1+(n2+1+n3)<=n1+(n2+n3)+1;omega⟩;rw[<- e1];refine⟨HX.o.ep,?_,HX.o.et⟩;show C++[x9.1]=c.C++[z.1];rw[show C=c.C from HX.o.ec,aO]
 rw[if_neg hc];have p2:(sv.toList == [99,104,97,110])=false:=by rw[q2,Ac hc]
 by_cases ht:wd=wTable
 ·rw[if_pos ht];have p3:(sv.toList == [116,97,98,108,101])=true:=by rw[q3,Ae ht]
  clear q1 q2 q3 hp hc ht;go_in;obtain⟨_,_,k2,k3,_⟩:=H0.o;go_wp2_with fail;refine HE.o.mono ?_;rintro e w1⟨rfl,rfl⟩;go_wp2_with fail;refine HT.o.mono ?_;rintro e w2⟨rfl,hm⟩;have H1:=hid (H0.o.step hm);clear hm HT k2 k3;obtain⟨_,_,k2,k3,_⟩:=H1.o;go_wp2_with fail;refine(HU.o _ H1.o.rd).mono ?_;rintro e W2⟨rfl,hm⟩;have H2:=hid (H1.o.step hm);clear hm HU k2 k3;have HM:=hid (Qcd H2.o.rd 32 32 rfl);obtain⟨_,_,k2,k3,_⟩:=H2.o;go_wp2_with fail;refine HM.o.mono ?_;rintro e W3⟨rfl,hm⟩;have H3:=hid (H2.o.step hm);clear hm HM k2 k3;have aY:Hd ((((some rs).bind (takeB 32)).getD []).length<=1048576):=hid (Ai (Qch _ _) aQ.o);obtain⟨s3,bN⟩:∃ s3,s3=(some rs).bind (takeB 32):=⟨_,rfl⟩;rw[<- bN] at H3 aY;have bT:=hid bN;clear H2 bN;have H2:=H3;clear H3;have aB:Hd (B<=W3.drew.heap.size):=hid (by have:=bP.o;have:=H2.o.gb.size;show B<=W3.heap.size;omega);have aA:=hid (H2.o.step (st':=s3) ⟨OwnV.below H2.o.rd rfl (Aj _ _).drew,Ho (Aj _ _).drew⟩);have K0:Hd (W3.drew.cell? ⟨w.heap.size,0,none⟩=some (.pointer (some ⟨g,0,none⟩))/\W3.drew.cell? ⟨w.heap.size+1,0,none⟩=some (.pointer (some ⟨gc,0,none⟩))):=hid ⟨aA.o.k2,aA.o.k3⟩;have aL:=hid (aA.o.a (A:=A3) (.inr (.inr rfl)));have aG:=hid (PhQ.keep (Br:=Br) (F:=TaQ W3.drew (s3.bind (tableS (knownS (namesP P) 58)))) aL.o fun y v v' hs hk hf=>⟨Su hf.1 hk aL.o.lc aL.o.lt,hf.2⟩);have bH:Hd (ez W3.drew.heap.size Br g W3.drew 76 #[.pointer (some ⟨w.heap.size,0,none⟩),.pointer (some ⟨w.heap.size+1,0,none⟩)] (knownS (namesP P) 58)):=hid ⟨fun s p h=>Ia h,fun args w=>by simp,fun st W hk hr hl=>by
   have bZ:W3.drew.grownBy W (some g):=⟨hk.os,hk.tape,hk.output,hk.size,fun i hi bW=>hk.block i hi fun e=>bW (by rw[e])⟩;have h5:=aA.o.step (st':=st) ⟨hr,bZ⟩;exact Ty hr hl A1 n1 c1 P (fun W' aC=>(h5.cv.rdr hr aC).s.pp.rdb) (by have:=aK.o;omega) h5.k2 h5.k3 (Dz h5.cv.s.cf 0 _ rfl).1⟩
  obtain⟨_,_,k2,k3,_⟩:=H2.o;go_upto_region 12 with fail;clear k2 k3;generalize bG:W3.drew=W0 at aB aA K0 aL aG bH;refine Rgs.region (w0:=W3) (by kernel_rfl) (by kernel_rfl) (fun(bA:Nat) (vl:Value) (_:World)=>match bA with | 0=>vl=.pointer (some ⟨gc,0,none⟩) | 1=>vl=.pointer (some ⟨gc,0,none⟩) | 2=>vl=.pointer (some ⟨gc,0,none⟩) | 3=>vl=.pointer (some ⟨gc,2,none⟩) | 4=>vl=.slice A3 n3 c3 | 5=>vl=.pointer (some ⟨g,0,none⟩) | 6=>vl=.func (.func 76) #[] #[.pointer (some ⟨w.heap.size,0,none⟩),.pointer (some ⟨w.heap.size+1,0,none⟩)] | 10=>vl=.pointer (some ⟨gc,0,none⟩) | 11=>vl=.pointer (some ⟨gc,2,none⟩) | _=>True) (ApG (fun y:NdT×Option (List UInt8)=>.slice y.1.A y.1.n y.1.c) (fun y=>tcn y.1) (PhQ Br g gc w.heap.size (w.heap.size+1) A3 W0 (TaQ W0 (s3.bind (tableS (knownS (namesP P) 58))))) W0 34 1 31 3 B gc [.slice A1 n1 c1,.slice A2 n2 c2,.slice A3 n3 c3] 2 B A3 n3 c3 (T.flatMap tcn) 7 8 9 12 56 57 58) ⟨fun _=>bG,fun e=>absurd e (by decide)⟩ (Rgs.steps_of ?_) ?_
  ·refine⟨?_,?_,?_,?_,?_,?_,?_,?_,?_,?_,?_,?_,?_,trivial⟩<;>intro a w1 live S E D C' h0 hk hW
   ·have e3:a.eval _=.pointer (some ⟨w.heap.size+1,0,none⟩):=E 3 rfl;have aE:=D3 C' h0 [10,11] 12 rfl;have hb:=(hW.phi (fun W=>W.cell? ⟨w.heap.size,0,none⟩=some (.pointer (some ⟨g,0,none⟩))/\W.cell? ⟨w.heap.size+1,0,none⟩=some (.pointer (some ⟨gc,0,none⟩))) K0.o (fun y W h=>h.2.2.1)).2;exact Dw hW.up
   ·have e3:a.eval _=.pointer (some ⟨w.heap.size+1,0,none⟩):=E 3 rfl;have aE:=D3 C' h0 [2,3,4,9] 12 rfl;have hb:=(hW.phi (fun W=>W.cell? ⟨w.heap.size,0,none⟩=some (.pointer (some ⟨g,0,none⟩))/\W.cell? ⟨w.heap.size+1,0,none⟩=some (.pointer (some ⟨gc,0,none⟩))) K0.o (fun y W h=>h.2.2.1)).2;exact Dw hW.up
   ·have d1:_=_:=rgsDe D 1;exact Dw hW.up
   ·have d2:_=_:=rgsDe D 2;exact Dw hW.up
   ·have d3:_=_:=rgsDe D 3;have aE:=D3 C' h0 [9] 12 rfl;have hc:=(hW.cellC aE aA.o.cv.s.cf 2 _ rfl).1;exact Dw hW.up
   ·have e2:a.eval _=.pointer (some ⟨w.heap.size,0,none⟩):=E 2 rfl;have aE:=D3 C' h0 [7,8,9] 12 rfl;have hb:=(hW.phi (fun W=>W.cell? ⟨w.heap.size,0,none⟩=some (.pointer (some ⟨g,0,none⟩))/\W.cell? ⟨w.heap.size+1,0,none⟩=some (.pointer (some ⟨gc,0,none⟩))) K0.o (fun y W h=>h.2.2.1)).1;exact Dw hW.up
   ·have e2:a.eval _=.pointer (some ⟨w.heap.size,0,none⟩):=E 2 rfl;have e3:a.eval _=.pointer (some ⟨w.heap.size+1,0,none⟩):=E 3 rfl;exact Dw hW.up
   ·have d5:_=_:=rgsDe D 5;have d6:_=_:=rgsDe D 6;have l8:=D3 C' h0 [] 8 rfl;have l9:=D3 C' l8 [] 9 rfl;have aE:=D3 C' l9 [] 12 rfl;have bB:w1=W0:=hW.pre h0;refine Ei 47 #[.pointer (some ⟨g,0,none⟩),.func (.func 76) #[] #[.pointer (some ⟨w.heap.size,0,none⟩),.pointer (some ⟨w.heap.size+1,0,none⟩)]] ?_ (by have c:=Reg.consts a;generalize a.eval=ρ at *;simp[execOp,go_sem,c.1,c.2,d5,d6]);rw[bB];refine((ttable_any bH.o aA.o.rd aY.o)).mono ?_;rintro e w5⟨l,aZ,Ap,np,cp,rfl,aX,bD,aV,hg,h5⟩;have bF:KpG g gc A3 W0 w5:=KpG.gb h5.gb;have aF:=aA.o.step h5;exact⟨_,rfl,trivial,hW.made h0 l8 l9 aE (by decide) (by rw[S];exact(by decide:56 < 61)) ((⟨Ap,np,cp,l⟩:NdT),aZ) ⟨h5.rd,bF,⟨aF.k2,aF.k3⟩,⟨aV,aX,bD,hg⟩⟩ h5.gb.size aF.cv.s.tb.own aF.cv.s.cf,fun jq vq _ hq=>hq⟩
   ·have l9:=D3 C' h0 [] 9 rfl;have aE:=D3 C' l9 [] 12 rfl;have lc:live 7=true:=hk 7 rfl;obtain⟨x,hv,aC⟩:=hW.lit aG.o lc l9 aE (by decide) (by rw[S];exact(by decide:57 < 61)) (by decide);refine Fd (.slice (some ⟨w1.heap.size,0,none⟩) 1 1) (w1.alloc (.cells #[.slice x.1.A x.1.n x.1.c] 34)) trivial aC (fun j v _ h=>h) ?_;have bC:a.eval (.tmp 56)=.slice x.1.A x.1.n x.1.c:=hv;have c:=Reg.consts a;generalize a.eval=ρ at *;simp[execOp,go_sem,c.1,c.2,bC]
   ·have d4:_=_:=rgsDe D 4;have aE:=D3 C' h0 [] 12 rfl;have lb:live 8=true:=hk 8 rfl;have lc:live 7=true:=C' _ _ rfl lb 7 rfl;obtain⟨gb,qb,A',c',w',aM,aC⟩:=hW.app ja aG.o lc lb h0 aE (by decide) (by rw[S];exact(by decide:58 < 61)) (by decide) (fun y=>rfl) (fun y=>Qaf y.1) (by decide) (by have:=aK.o;omega) (by have:=aK.o;omega) aB.o;refine Fd (.slice A' (n3+1:Nat) c') w' trivial aC (fun j v _ h=>h) ?_;have cc:=Reg.consts a;generalize a.eval=ρ at *;simp only[execOp,resolve,invoke,builtin,Sem.run_bind,Sem.run_pure,At,Cs,Cp,Da,d4,qb,aM]
   ·have d0:_=_:=rgsDe D 0;exact Dw hW.up
   ·have cA:_=_:=rgsDe D 10;exact Dw hW.up
   have cF:_=_:=rgsDe D 11;have la:live 9=true:=hk 9 rfl;have lb:live 8=true:=C' _ _ rfl la 8 rfl;have lc:live 7=true:=C' _ _ rfl lb 7 rfl;obtain⟨A',c',qa,aC⟩:=hW.put aG.o lc la h0 (by decide) (by decide) (by decide);have hc:=hW.cellC h0 aA.o.cv.s.cf 2 _ rfl;have bR:=hc.1;have bQ:=hc.2;exact Jc (w1.setCell ⟨gc,2,none⟩ (.slice A' (n3+1:Nat) c')) trivial aC (fun j v _ h=>h)
  intro a w9 live hs hd E Dv Hl hW;obtain⟨x9,r1,aO,r2,r3,r4,r5,r6,aD⟩:=hW.res (Hl 7 (by decide));obtain⟨A9,c9,aT,aN,aR⟩:=aD (Hl 12 (by decide));have aU:=hid aO;have bK:=hid aT;have bJ:=hid aR;rw[Rgs.act_ws a _ _ hs hd E [49,50,51,52,53,54,55,56,57,58,59,60] (by kernel_rfl)];simp only[List.foldl,Bg,Bv,Bp];clear r1 r2 r3 r4 r5 r6 E Dv Hl hW aO aT aN aR aD
  generalize a.eval=ρ9;clear a hs hd;have bI:Hd (KpL g gc ⟨A1,A2,A3,n1,n2,n3,c1,c2,c3,P,C,T⟩ w w9):=hid (KpL.of ((KpG.gb aA.o.gb).trans aU.o.2.1) (.inr (.inr rfl)));go_wp2_with fail
  first | go_end0 | refine Be (Cn rfl _ _ _) rfl ?_
  obtain⟨aP,bE,_,aV,aX,bD,aJ⟩:=aU.o;have bY:Got ((some rs).bind (tabS (namesP P))) (ndT0 x9.1.l) x9.2:=Jq (by
   have a1:=aJ.bind fun t s=>some (ndT0 t,s);have a2:=must_bind (some rs) 32 fun s=>(tableS (knownS (namesP P) 58) s).bind fun t=>some (ndT0 t.1,t.2);rw[bT.o] at a1;exact a2.trans a1)
  obtain⟨g1,g2⟩:=bY;rw[As] at g1 g2;refine⟨rfl,x9.2,?_,aP,bI.o,fun c' r e=>?_⟩
  ·rw[g1,<- bM.o,Option.map_map];rfl
  rw[<- bM.o] at e;cases hz:tabS (namesP P) rs with
  | none=>rw[hz] at e;cases e
  | some z =>
   rw[hz] at e;injection e with e;injection e with e1 e2;have hy:=g2 z hz;have bX:∀ q∈x9.1.l,NdIn q:=by
    unfold tabS at hz;obtain⟨s1,h1,hz⟩:=Aw.1 hz;obtain⟨t,h2,hz⟩:=Aw.1 hz;have e3:s3=some s1:=bT.o.trans h1;have e4:=aJ.2 t (by rw[e3,As];exact h2);rw[e4];exact nodeS_in (fun s p h=>Ia h) (fun s p h=>knownS_in (by unfold namesP;rw[Bi,aA.o.cv.s.pp.len];have:=aK.o;show n1<=1048576;omega) h) 16 128 s1 t (by omega) h2
   refine⟨_,aA.o.cv.tab1 aA.o.rd bE x9.1 bK.o bJ.o (OwnV.weak aV aB.o) aX bX (by omega) (by have:=aK.o;omega),?_,by show n1+(n2+(n3+1))<=n1+(n2+n3)+1;omega⟩;rw[<- e1];refine⟨HX.o.ep,HX.o.ec,?_⟩;show (T++[x9.1]).map (fun t=>ndT0 t.l)=c.T++[z.1];rw[De,show T.map (fun t=>ndT0 t.l)=c.T from HX.o.et,<- hy];rfl
 rw[if_neg ht];have p3:(sv.toList == [116,97,98,108,101])=false:=by rw[q3,Ac ht]
 clear q1 q2 q3 hp hc ht;go_in;obtain⟨_,_,k2,k3,_⟩:=H0.o;go_wp2_with fail;refine HE.o.mono ?_;rintro e w1⟨rfl,rfl⟩;go_wp2_with fail;refine HT.o.mono ?_;rintro e w2⟨rfl,hm⟩;have H1:=hid (H0.o.step hm);clear hm HT k2 k3;obtain⟨_,_,k2,k3,_⟩:=H1.o;go_wp2_with fail;refine(HU.o _ H1.o.rd).mono ?_;rintro e W2⟨rfl,hm⟩;have H2:=hid (H1.o.step hm);clear hm HU k2 k3;have HF:=hid (En H2.o.rd);obtain⟨_,_,k2,k3,_⟩:=H2.o;go_wp2_with fail;refine HF.o.mono ?_;rintro e w4⟨rfl,hm⟩;have H4:=hid (H2.o.step hm);clear hm k2 k3;go_wp2_with fail
 first | go_end0 | refine Be (Cn rfl _ _ _) rfl ?_
 exact H4.o.same HX.o (.inr ⟨rfl,rfl⟩)
def Qbb(c:Cft):Cf:=⟨none,none,none,0,0,0,0,0,0,c.P,c.C,c.T⟩
theorem Ctn.same{x:Cf}{c:Cft}(h:Ctn x c):Tm x (Qbb c):=by
 refine⟨⟨?_,fun i a b ha hb=>?_,h.ec⟩,?_,fun i a b ha hb=>?_⟩
 ·show x.P.length=c.P.length;rw[<- h.ep,Bi]
 ·have hb:c.P[i]? = some b:=hb;rw[<- h.ep,Bm,ha] at hb;injection hb with hb;rw[<- hb];exact⟨rfl,rfl,rfl,rfl,rfl,⟨rfl,rfl,rfl,rfl,rfl⟩,rfl⟩
 ·show x.T.length=c.T.length;rw[<- h.et,Bi]
 have hb:c.T[i]? = some b:=hb;rw[<- h.et,Bm,ha] at hb;injection hb with hb;rw[<- hb];exact Fw _
theorem Ctn.whF{x:Cf}{c:Cft}(h:Ctn x c)(hx:∀ z∈x.P,z.2.length=z.1.pn):D5 x.P x.C x.T=D5 c.P c.C c.T :=
 Ru h.same hx fun z hz=>by
  have hz:z∈c.P:=hz
  rw[<- h.ep] at hz
  obtain⟨y,_,rfl⟩:=By.1 hz
  rfl
namespace Txt
theorem split_ahead(b:UInt8)(s:List UInt8):splitF b s=match behindT (isB b) s with
  | []=>[aheadT (isB b) s]
  | _::r=>aheadT (isB b) s::splitF b r:=by
 have e:=ahead_behind (isB b) s
 have hw:b ∉ aheadT (isB b) s:=fun hm=>by
  have:=ahead_all (isB b) s _ hm
  unfold isB at this
  simp at this
 have hh:=behind_head (isB b) s
 cases hb:behindT (isB b) s with
 | nil =>
  rw[hb,Az] at e
  dsimp only
  have:=split_one hw
  rw[e] at this |-
  exact this
 | cons c r =>
  have hc:c=b:=by
   have:=hh c (by rw[hb];rfl)
   unfold isB at this
   simpa using this
  rw[hb,hc] at e
  dsimp only
  have:=split_at r hw
  rw[e] at this
  exact this
def nextL(s:List UInt8):List UInt8:=(behindT (isB 10) s).tail
theorem lineD_nil(c:Cft):lineD c []=some c:=lineD_skip (by rfl)
theorem linesQ_more(i:Nat)(c:Cft)(s:List UInt8):linesQ i c (splitF 10 s)=match lineD c (aheadT (isB 10) s) with
  | none=>.inl (i+1)
  | some c'=>linesQ (i+1) c' (splitF 10 (nextL s)):=by
 rw[split_ahead 10 s]
 unfold nextL
 cases behindT (isB 10) s with
 | nil =>
  dsimp only
  rw[linesQ_cons]
  cases lineD c (aheadT (isB 10) s) with
  | none=>rfl
  | some c' =>
   dsimp only
   show linesQ (i+1) c' []=linesQ (i+1) c' [[]]
   rw[linesQ_cons,lineD_nil]
   rfl
 | cons c2 r =>
  dsimp only
  rw[linesQ_cons]
  rfl
theorem linesQ_nil(i:Nat)(c:Cft):linesQ i c (splitF 10 [])=.inr c:=by
 show linesQ i c [[]]=_;rw[linesQ_cons,lineD_nil];rfl
theorem nextL_lt{s:List UInt8}(h:s≠[]):(nextL s).length < s.length:=by
 unfold nextL;have:=behind_le (isB 10) s;rw[List.length_tail];have:0 < s.length:=List.length_pos_iff.2 h;omega
theorem lineD_S{c:Cft}{s:List UInt8}:lineD c s=match lineS c s with
  | none=>none
  | some x=>if x.2=[] then some x.1 else none:=rfl
end Txt
theorem E9(w:World):(sizeOf 31).run Tryz.prog w=.ok 3 w:=by go_simp
theorem Fh(w:World):(isAgg 31).run Tryz.prog w=.ok true w:=by go_simp
theorem Q4{fn:Func}{p q r:Tmp}{T:TypeId}(h:fn.results=#[.cell p T,.tmp q,.tmp r])(aA:Array Value)(P:Program)(w:World):
  (results fn aA).run P w=((asAddr (aA.getD p undef)).run P w).andThen fun a w₁=>((loadVar T a).run P w₁).andThen fun v w₂=>.ok (.tuple #[v,aA.getD q undef,aA.getD r undef]) w₂:=by
 simp only[results,h];simp[Sem.run_bind,Result.andThen]
theorem El{fn:Func}{p q r:Tmp}{T n:Nat}(h:fn.results=#[.cell p T,.tmp q,.tmp r]){aA:Array Value}{w:World}{B g:Nat}{l:List Value}(e:(isAgg T).run Tryz.prog w=.ok true w)(e2:(sizeOf T).run Tryz.prog w=.ok n w)(hp:aA.getD p undef=.pointer (some ⟨g,0,none⟩))(ho:OwnV T n w B (some ⟨g,0,none⟩) 1 1 l):(results fn aA).run Tryz.prog w=.ok (.tuple #[.agg l.toArray,aA.getD q undef,aA.getD r undef]) w:=by
 have e3:(asAddr (.pointer (some ⟨g,0,none⟩))).run Tryz.prog w=.ok ⟨g,0,none⟩ w:=rfl;rw[Q4 h,hp,e3,At,Fz e e2 ho,At]
def To(s:List UInt8)(w:World)(e:Ending)(w':World):Prop:=Below w.heap.size w w'/\∃ x:Cf,e=.returned (.tuple #[cfv x,.int .i64 (parseQ s).1,.int .i64 (parseQ s).2.1])/\CfR w' x/\Ctn x (parseQ s).2.2/\OwnV 60 11 w' w.heap.size x.A1 x.n1 x.c1 (x.P.flatMap pcq)/\OwnV 34 1 w' w.heap.size x.A3 x.n3 x.c3 (x.T.flatMap tcn)
def cf0:Cf:=⟨none,none,none,0,0,0,0,0,0,[],[],[]⟩
theorem CfR.zero(w:World):CfR w cf0:=⟨⟨rfl,RdV.nil⟩,⟨rfl,RdV.nil⟩,⟨rfl,RdV.nil⟩,fun y hy=>(by cases hy),fun y hy=>(by cases hy),Ag _,Ag _,Ag _,Cr _,Cr _,Cr _,⟨by decide,by decide,by decide,fun y hy=>(by cases hy),fun y hy=>(by cases hy)⟩⟩
theorem Ctn.zero:Ctn cf0 cft0:=⟨rfl,rfl,rfl⟩
structure Ox(B ga gc gr:Nat)(st:Option (List UInt8))(x:Cf)(w0 w:World):Prop where
 rd:Qce B ga st w
 cv:CvS B gc x w
 re:OwnV 31 3 w B (some ⟨gr,0,none⟩) 1 1 [.slice none 0 0,.slice none 0 0,.slice none 0 0]
 nr:gr≠gc
 be:Below B w0 w
 sz:B<=w.heap.size
section
variable {B ga gc gr g:Nat} {st st' s1:Option (List UInt8)} {x x':Cf} {w0 w w':World}
theorem Ox.step(h:Ox B ga gc gr st x w0 w)(k:Rpo B ga st' w w'):Ox B ga gc gr st' x w0 w' :=
 ⟨k.rd,h.cv.rdr h.rd k.gb,OwnV.gbo h.re k.gb (Ee h.re h.rd (by decide)),h.nr,h.be.trans (Fq k.gb h.rd.cells.2.2.2.2.1 h.sz),Ai h.sz k.gb.size⟩
theorem Ox.on(h:Ox B ga gc gr st x w0 w)(hb:Below w.heap.size w w'):Ox B ga gc gr st x w0 w' :=
 ⟨OwnV.below h.rd rfl hb,h.cv.on hb,OwnV.below h.re rfl hb,h.nr,h.be.trans (hb.mono h.sz),Ai h.sz hb.size⟩
theorem KpL.own{E s n c:Nat}{A:Option Addr}{l:List Value}{st2:Option (List UInt8)}{B1 B2:Nat}(h:KpL g gc x w w')(hc:CvS B gc x w)(ho:OwnV E s w B1 A n c l)(h1:obk A≠some g)(h2:obk A≠some gc)(e1:E≠60)(e2:E≠66)(e3:E≠34):OwnV E s w' B1 A n c l :=
 OwnV.keep' ho fun k hk=>h.block k (OwnV.older ho hk) (fun e=>h1 (by rw[hk,e])) (fun e=>h2 (by rw[hk,e])) (fun e=>OwnV.apart ho hc.s.pp.own e1 k hk e) (fun e=>OwnV.apart ho hc.s.ch.own e2 k hk e) (fun e=>OwnV.apart ho hc.s.tb.own e3 k hk e)
theorem Ox.line(h:Ox B ga gc gr st x w0 w)(hr:Qce B g s1 w)(hg:ga≠g)(hk:KpL g gc x w w'):Qce B ga st w'/\OwnV 31 3 w' B (some ⟨gr,0,none⟩) 1 1 [.slice none 0 0,.slice none 0 0,.slice none 0 0]/\Below B w0 w'/\B<=w'.heap.size:=by
 refine⟨KpL.own (st2:=s1) (B2:=0) hk h.cv h.rd (by intro e;injection e with e;exact hg e) (Hj h.rd h.cv (by decide)) (by decide) (by decide) (by decide),KpL.own (st2:=s1) (B2:=0) hk h.cv h.re (Ee h.re hr (by decide)) (by intro e;injection e with e;exact h.nr e) (by decide) (by decide) (by decide),h.be.trans ⟨hk.os,hk.tape,hk.output,hk.size,fun i hi=>?_⟩,Ai h.sz hk.size⟩;have q1:=(OwnV.obk_ge hr (b:=g) rfl).1;have q2:=(OwnV.obk_ge h.cv.s.cf (b:=gc) rfl).1;exact hk.block i (Bc hi h.sz) (by omega) (by omega) (fun e=>by have:=(OwnV.obk_ge h.cv.s.pp.own e).1;omega) (fun e=>by have:=(OwnV.obk_ge h.cv.s.ch.own e).1;omega) (fun e=>by have:=(OwnV.obk_ge h.cv.s.tb.own e).1;omega)
end
theorem Gx{w w0:World}{B g:Nat}(h:OwnV 31 3 w B (some ⟨g,0,none⟩) 1 1 [.slice none 0 0,.slice none 0 0,.slice none 0 0])(hb:Below B w0 w)(hg:B<=g):
  (w.cell? ⟨g,0,none⟩=some (.slice none 0 0)/\w.frozen? ⟨g,0,none⟩=false)/\(w.cell? ⟨g,1,none⟩=some (.slice none 0 0)/\w.frozen? ⟨g,1,none⟩=false)/\(w.cell? ⟨g,2,none⟩=some (.slice none 0 0)/\w.frozen? ⟨g,2,none⟩=false)/\
  OwnV 31 3 (((w.setCell ⟨g,0,none⟩ (.slice none 0 0)).setCell ⟨g,1,none⟩ (.slice none 0 0)).setCell ⟨g,2,none⟩ (.slice none 0 0)) B (some ⟨g,0,none⟩) 1 1 [.slice none 0 0,.slice none 0 0,.slice none 0 0]/\Below B w0 (((w.setCell ⟨g,0,none⟩ (.slice none 0 0)).setCell ⟨g,1,none⟩ (.slice none 0 0)).setCell ⟨g,2,none⟩ (.slice none 0 0)) :=
 ⟨Dz h 0 _ rfl,Dz h 1 _ rfl,Dz h 2 _ rfl,((OwnV.set h 0 _ (by show 0 < 3;omega)).set 1 _ (by show 1 < 3;omega)).set 2 _ (by show 2 < 3;omega),((hb.setCell (p:=⟨g,0,none⟩) hg _).setCell (p:=⟨g,1,none⟩) hg _).setCell (p:=⟨g,2,none⟩) hg _⟩
theorem CvS.res{B gc gr:Nat}{x:Cf}{w w':World}{l:List Value}(h:CvS B gc x w)(aA:OwnV 31 3 w B (some ⟨gr,0,none⟩) 1 1 l)(aB:gr≠gc)(hg:w.grownBy w' (some gr)):CvS B gc x w' :=
 have a:∀ {E s n c:Nat} {A:Option Addr} {m:List Value},OwnV E s w B A n c m->E≠31->OwnV E s w' B A n c m:=fun q e=>OwnV.gbo q hg fun e2=>OwnV.apart q aA e gr e2 rfl
 ⟨⟨OwnV.gbo h.s.cf hg (by intro e;injection e with e;exact aB e.symm),⟨h.s.pp.len,a h.s.pp.own (by decide)⟩,⟨h.s.ch.len,a h.s.ch.own (by decide)⟩,⟨h.s.tb.len,a h.s.tb.own (by decide)⟩⟩,fun y hy=>a (h.pt y hy) (by decide),fun y hy=>a (h.tt y hy) (by decide),h.ok⟩
theorem fh(sn:List UInt8):tkS 10 (some (behindT (isB 10) sn))=some (nextL sn):=by
 unfold tkS nextL;have hh:=behind_head (isB 10) sn;cases hb:behindT (isB 10) sn with
 | nil=>rfl
 | cons c r =>
  have hc:c=10:=by
   have:=hh c (by rw[hb];rfl);unfold isB at this;simpa using this
  rw[hc,As,takeB_self];rfl
theorem E7(w:World):Tryz.prog.built 31 []=some #[.slice none 0 0,.slice none 0 0,.slice none 0 0]:=rfl
theorem Qo(sv:ByteArray):Tryz.prog.built 79 [(0,.string sv)]=some #[.string sv,.bool false]:=rfl
theorem If(s:List UInt8)(w:World)(hs:s.length<=1048576):Calls Tryz.prog 17 #[.string (bsOf s)] w (To s w):=by
 have b0:=bl1 w (.cells #[.slice none 0 0,.slice none 0 0,.slice none 0 0] 31);have o0:=D7 w 31 3 w.heap.size #[.slice none 0 0,.slice none 0 0,.slice none 0 0] 1 rfl (Ag _) (by unfold maxLen;omega);have aK:(w.alloc (.cells #[.slice none 0 0,.slice none 0 0,.slice none 0 0] 31)).heap.size=w.heap.size+1:=by simp
 have aY:(bsOf s).size=s.length:=rfl;by_cases aA:16384 < s.length
 ·have HQ:Hd (parseQ s=(3,0,cft0)):=hid (by unfold parseQ;rw[if_pos aA]);have bH:(16384:Int) < (s.length:Int):=by omega
  have HO:=hid o0;have HB:=hid b0;unfold To;rw[HQ.o];obtain⟨n,hn⟩:∃ n,n=s.length:=⟨_,rfl⟩;rw[<- hn] at bH aY;generalize bsOf s=sv at aY |-;clear hs aA HQ b0 o0 aK hn;have aI:=E7 w;go_in;go_upto_region 2 with fail;generalize w.alloc (.cells #[.slice none 0 0,.slice none 0 0,.slice none 0 0] 31)=w1 at HO HB |-;have c0:=Dz HO.o 0 _ rfl;have c1:=Dz HO.o 1 _ rfl;have c2:=Dz HO.o 2 _ rfl;obtain⟨cC,cA⟩:=c0;obtain⟨bZ,bY⟩:=c1;obtain⟨bX,bW⟩:=c2;have aT:Hd (OwnV 31 3 (((w1.setCell ⟨w.heap.size,0,none⟩ (.slice none 0 0)).setCell ⟨w.heap.size,1,none⟩ (.slice none 0 0)).setCell ⟨w.heap.size,2,none⟩ (.slice none 0 0)) w.heap.size (some ⟨w.heap.size,0,none⟩) 1 1 [.slice none 0 0,.slice none 0 0,.slice none 0 0]):=hid (((HO.o.set 0 _ (by show 0 < 3;omega)).set 1 _ (by show 1 < 3;omega)).set 2 _ (by show 2 < 3;omega));have aV:Hd (Below w.heap.size w (((w1.setCell ⟨w.heap.size,0,none⟩ (.slice none 0 0)).setCell ⟨w.heap.size,1,none⟩ (.slice none 0 0)).setCell ⟨w.heap.size,2,none⟩ (.slice none 0 0))):=hid (((HB.o.setCell (p:=⟨w.heap.size,0,none⟩) (Ag _) _).setCell (p:=⟨w.heap.size,1,none⟩) (Ag _) _).setCell (p:=⟨w.heap.size,2,none⟩) (Ag _) _);go_wp2_with fail;refine Be (El rfl (Fh _) (E9 _) rfl aT.o) rfl ?_;exact⟨aV.o,cf0,rfl,CfR.zero _,Ctn.zero,OwnV.nil _ _ _ _,OwnV.nil _ _ _ _⟩
 have cX:Hd (s.length<=16384):=hid (by omega);have bH:¬ (16384:Int) < (s.length:Int):=by omega
 have aQ:Hd (∀ i,linesQ 0 cft0 (splitF 10 s)=.inl i->parseQ s=(12,(i:Int),cft0)):=hid fun i h=>by unfold parseQ;rw[if_neg aA,h]
 have aP:Hd (∀ c,linesQ 0 cft0 (splitF 10 s)=.inr c->parseQ s=if (D5 c.P c.C c.T).1=0 then (0,0,c) else ((D5 c.P c.C c.T).1,0,cft0)):=hid fun c h=>by unfold parseQ;rw[if_neg aA,h]
 obtain⟨V,hV⟩:∃ V,V=linesQ 0 cft0 (splitF 10 s):=⟨_,rfl⟩;rw[<- hV] at aQ aP;have HV:=hid hV;unfold To;generalize parseQ s=PQ at aQ aP |-;obtain⟨W1,bV⟩:∃ W1,W1=w.alloc (.cells #[.slice none 0 0,.slice none 0 0,.slice none 0 0] 31):=⟨_,rfl⟩;rw[<- bV] at b0 o0 aK;have b1:=bl1 W1 (.cells #[.slice none 0 0,.slice none 0 0,.slice none 0 0] 31);have o1:=D7 W1 31 3 w.heap.size #[.slice none 0 0,.slice none 0 0,.slice none 0 0] 1 rfl b0.size (by unfold maxLen;omega);have bE:(W1.alloc (.cells #[.slice none 0 0,.slice none 0 0,.slice none 0 0] 31)).heap.size=w.heap.size+1+1:=by simp[aK]
 obtain⟨W2,bU⟩:∃ W2,W2=W1.alloc (.cells #[.slice none 0 0,.slice none 0 0,.slice none 0 0] 31):=⟨_,rfl⟩;rw[<- bU] at b1 o1 bE;have b2:=bl1 W2 (.cells #[.string (bsOf s),.bool false] 79);have o2:=D7 W2 79 2 w.heap.size #[.string (bsOf s),.bool false] 1 rfl (Ai b0.size b1.size) (by unfold maxLen;omega);obtain⟨W3,bT⟩:∃ W3,W3=W2.alloc (.cells #[.string (bsOf s),.bool false] 79):=⟨_,rfl⟩;rw[<- bT] at b2 o2;rw[aK] at o1;rw[bE] at o2;have aM:CvS w.heap.size (w.heap.size+1) cf0 W3:=⟨⟨OwnV.below o1 rfl b2,⟨rfl,OwnV.nil _ _ _ _⟩,⟨rfl,OwnV.nil _ _ _ _⟩,⟨rfl,OwnV.nil _ _ _ _⟩⟩,fun y hy=>(by cases hy),fun y hy=>(by cases hy),CfC.of (CfR.zero w)⟩;have bA:Hd (Ox w.heap.size (w.heap.size+1+1) (w.heap.size+1) w.heap.size (some s) cf0 w W3):=hid ⟨o2,aM,OwnV.below (OwnV.below o0 rfl b1) rfl b2,by omega,(b0.trans (b1.mono b0.size)).trans (b2.mono (Ai b0.size b1.size)),Ai (Ai b0.size b1.size) b2.size⟩;subst bT;subst bU;subst bV;have aI:=Qo (bsOf s);obtain⟨n,hn⟩:∃ n,n=s.length:=⟨_,rfl⟩;rw[<- hn] at bH aY;clear hs aA b0 o0 aK b1 o1 bE b2 o2 aM hV;generalize bsOf s=sv at bA aI aY |-;go_in;go_wp2_with fail;generalize ((w.alloc (.cells #[.slice none 0 0,.slice none 0 0,.slice none 0 0] 31)).alloc (.cells #[.slice none 0 0,.slice none 0 0,.slice none 0 0] 31)).alloc (.cells #[.string sv,.bool false] 79)=Wz at bA |-;go_loopw [7,8] (fun a _ wr=>∃(i:Nat) (sn:List UInt8) (c:Cft) (x:Cf),a=.int .i64 ((i+1:Nat):Int)/\Ox w.heap.size (w.heap.size+1+1) (w.heap.size+1) w.heap.size (some sn) x w wr/\Ctn x c/\V=linesQ i c (splitF 10 sn)/\x.n1+(x.n2+x.n3)<=i/\i+sn.length<=16384) (fun _ _ wr=>Ve wr (w.heap.size+1+1))
 case atStart=>exact⟨0,s,cft0,cf0,rfl,bA.o,Ctn.zero,HV.o,Ag _,by have:=cX.o;omega⟩
 obtain⟨i,sn,c,x,rfl,bF,aN,hv,aE,bQ⟩:=hrel;have HP:=hid bF;have HC:=hid aN;have aZ:=hid hv;have cH:=hid aE;have aU:=hid bQ;have cV:=hid (Gy bF.rd);obtain⟨k,hk⟩:∃ k,k=i+1:=⟨_,rfl⟩;rw[<- hk];have HK:=hid hk;clear bF aN hv aE bQ bA HV hk;by_cases aH:sn=[]
 ·have HE:=hid (Hc HP.o.rd (by rw[Bq];exact aH));have hV:V=.inr c:=by rw[aZ.o,aH];exact linesQ_nil i c
  have HQ:=hid (aP.o c hV);have hr:=HP.o.cv.r;have aG:=hid (Jp x.A1 x.A2 x.A3 x.n1 x.n2 x.n3 x.c1 x.c2 x.c3 x.P x.C x.T wr hr.pp hr.ch hr.tb (fun y hy=>(hr.pt y hy).1) hr.tt hr.k1);have bN:=HC.o.whF hr.lens;rw[bN] at aG;obtain⟨m0,cL⟩:=Dz HP.o.cv.s.cf 0 _ rfl;obtain⟨m1,cK⟩:=Dz HP.o.cv.s.cf 1 _ rfl;obtain⟨m2,cJ⟩:=Dz HP.o.cv.s.cf 2 _ rfl;clear hV hr bN cL cK cJ aH aZ aP aQ;by_cases hz:(D5 c.P c.C c.T).1=0
  ·rw[hz] at aG;rw[if_pos hz] at HQ;clear hz;go_wp2_with fail;refine HE.o.mono ?_;rintro e w1⟨rfl,rfl⟩;go_wp2_with fail;refine aG.o.mono ?_;rintro e w2⟨rfl,hb⟩;have aB:=hid (HP.o.on hb);clear hb aG m0 m1 m2;go_upto_region 16 with fail;refine wp_region_lit (wpList_loadX rfl (.tmp 5) rfl rfl (Fh _) (E9 _) aB.o.cv.s.cf (wpList_storeX (l:=[.slice x.A1 x.n1 x.c1,.slice x.A2 x.n2 x.c2,.slice x.A3 x.n3 x.c3]) rfl (.tmp 2) (.tmp 41) rfl rfl rfl (E9 _) aB.o.re rfl ?_ fun w5 bP bJ=>?_))
   ·intro v hv;simp only[Ba,Co,or_false] at hv;rcases hv with rfl | rfl | rfl <;> rfl
   have bL:=hid (aB.o.cv.res aB.o.re aB.o.nr bJ);have cR:=hid bP;have dA:Hd (Below w.heap.size w w5):=hid (aB.o.be.trans (Fq bJ (Ag _) aB.o.sz));clear bP bJ aB HP;go_wp2_with fail;refine Be (El rfl (Fh _) (E9 _) rfl cR.o) rfl ?_;rw[HQ.o];exact⟨dA.o,x,rfl,bL.o.r,HC.o,bL.o.s.pp.own,bL.o.s.tb.own⟩
  have dB:=hid hz;rw[if_neg hz] at HQ;generalize (D5 c.P c.C c.T).1=z at aG HQ hz;have i1:(z != 0)=true:=Bz.2 hz;clear hz;go_wp2_with fail;refine HE.o.mono ?_;rintro e w1⟨rfl,rfl⟩;go_wp2_with fail;refine aG.o.mono ?_;rintro e w2⟨rfl,hb⟩;have aB:=hid (HP.o.on hb);clear hb aG m0 m1 m2;go_upto_region 15 with fail;have cM:=E7 w2;obtain⟨⟨cC,cA⟩,⟨bZ,bY⟩,⟨bX,bW⟩,ho,hb⟩:=Gx aB.o.re aB.o.be (Ag _);have aT:=hid ho;have aV:=hid hb;clear ho hb;go_wp2_with fail;refine Be (El rfl (Fh _) (E9 _) rfl aT.o) rfl ?_;rw[HQ.o];exact⟨aV.o,cf0,rfl,CfR.zero _,Ctn.zero,OwnV.nil _ _ _ _,OwnV.nil _ _ _ _⟩
 have bK:=hid (nextL_lt aH);have HE:=hid (by obtain⟨a,b,e⟩:∃ a b,sn=a::b:=(match sn,aH with | a::b,_=>⟨a,b,rfl⟩);exact Gf (show Qce w.heap.size (w.heap.size+1+1) (some (a::b)) _ from e▸HP.o.rd));have HU:=hid (Js HP.o.rd (by rw[Bq];have:=aU.o;omega) 10 10 rfl);rw[Bq,show (some sn).map (behindT (isB 10))=some (behindT (isB 10) sn) from rfl] at HU;have cI:Hd ((aheadT (isB 10) sn).length<=1048576):=hid (by have:=J9 (isB 10) sn;have:=aU.o;omega);have aD:=linesQ_more i c sn;rw[<- aZ.o] at aD;have aO:=hid fun W (hh:Qce w.heap.size (w.heap.size+1+1) (some (behindT (isB 10) sn)) W)=>Lv hh 10 10 rfl;rw[fh] at aO;have aJ:=hid aD;have aI:=Qo (bsOf (aheadT (isB 10) sn));clear aH aD aZ;generalize nextL sn=bD at bK aO aJ;generalize behindT (isB 10) sn=rs at HU aO;generalize aheadT (isB 10) sn=xs at HU cI aJ aI;go_wp2_with fail;refine HE.o.mono ?_;rintro e w1⟨rfl,rfl⟩;go_wp2_with fail;refine HU.o.mono ?_;rintro e w2⟨rfl,h2⟩;have aB:=hid (HP.o.step h2);clear h2 HU HE HP;have bS:=bl1 w2 (.cells #[.string (bsOf xs),.bool false] 79);have bC:=hid (aB.o.on bS);have bM:Hd (Qce w.heap.size w2.heap.size (some xs) (w2.alloc (.cells #[.string (bsOf xs),.bool false] 79))):=hid (D7 w2 79 2 w.heap.size #[.string (bsOf xs),.bool false] 1 rfl aB.o.sz (by unfold maxLen;omega));have cG:Hd (w.heap.size+1+1 < w2.heap.size):=hid aB.o.rd.cells.2.2.2.2.2;have HT:=hid (aO.o _ bC.o.rd);generalize ((some rs).bind (takeB 10)).isSome=tb at HT;clear bS aO;generalize bsOf xs=xv at bC bM aI HT |-;go_wp2_with fail;refine HT.o.mono ?_;rintro e w3⟨rfl,h3⟩;have bB:=hid (bC.o.step h3);have aX:Hd (Qce w.heap.size w2.heap.size (some xs) w3):=hid (OwnV.gbo bM.o h3.gb (by intro e;injection e with e;dsimp only at e;have:=cG.o;omega));clear h3 HT bC bM aI;have cF:=hid (Xm aX.o cI.o bB.o.cv bB.o.sz HC.o (by have:=cH.o;have:=aU.o;omega));go_wp2_with fail;refine cF.o.mono ?_;rintro e w4⟨rfl,st',aF,bO,bR,bG⟩;obtain⟨p1,p2,p3,p4⟩:=bB.o.line aX.o (by have:=cG.o;omega) bR;have HD:=hid (Pw bO);have cQ:=hid p1;have cD:=hid p2;have cE:=hid p3;have cP:=hid p4;clear p1 p2 p3 p4 bR bO cF;by_cases aC:st'=some []
 ·have aL:∃ c',lineS c xs=some (c',[]):=by
   cases hq:lineS c xs with
   | none=>rw[hq] at aF;rw[aF] at aC;cases aC
   | some y =>
    rw[hq] at aF;rw[aF] at aC;injection aC with aC;exact⟨y.1,by rw[<- aC]⟩
  obtain⟨c',aL⟩:=aL;obtain⟨x',aM,aN,aE⟩:=bG c' [] aL;have hV:V=linesQ (i+1) c' (splitF 10 bD):=by rw[aJ.o,lineD_S,aL];rfl
  have cO:=hid hV;have aR:Hd (Ox w.heap.size (w.heap.size+1+1) (w.heap.size+1) w.heap.size (some bD) x' w w4):=hid ⟨cQ.o,aM,cD.o,bB.o.nr,cE.o,cP.o⟩;have cZ:=hid aN;have cU:Hd (x'.n1+(x'.n2+x'.n3)<=i+1):=hid (by have:=cH.o;omega);rw[Ae aC] at HD;have k1:(k:Int)+1=((k+1:Nat):Int):=by omega
  obtain⟨kk,bI⟩:∃ kk,kk=k+1:=⟨_,rfl⟩;rw[<- bI] at k1;have k2:IntKind.i64.wrap (kk:Int)=(kk:Int):=by rw[Cm];have:=aU.o;have:=HK.o;omega
  have cY:Hd (kk=i+1+1):=hid (by rw[bI,HK.o]);clear aC aL bG aF aM aN aE hV aJ bI;go_wp2_with fail;refine HD.o.mono ?_;rintro e w5⟨rfl,rfl⟩;go_wp2;go_roundw
  case rel=>exact⟨i+1,bD,c',x',by rw[<- cY.o],aR.o,cZ.o,cO.o,cU.o,by have:=bK.o;have:=aU.o;omega⟩
  rw[cV.o,Gy aR.o.rd];exact bK.o
 have hV:V=.inl (i+1):=by
  rw[aJ.o,lineD_S];cases hq:lineS c xs with
  | none=>rfl
  | some y =>
   rw[hq] at aF;rw[aF] at aC;have:y.2≠[]:=fun e=>aC (congrArg some e);show (match (if y.2=[] then some y.1 else none) with | none=>_ | some c'=>_)=_;rw[if_neg this]
 have HQ:=hid (aQ.o (i+1) hV);rw[Ac aC] at HD;clear aC bG aF hV aJ aQ aP;go_wp2_with fail;refine HD.o.mono ?_;rintro e w5⟨rfl,rfl⟩;have cM:=E7 w4;obtain⟨⟨cC,cA⟩,⟨bZ,bY⟩,⟨bX,bW⟩,ho,hb⟩:=Gx cD.o cE.o (Ag _);have aT:=hid ho;have aV:=hid hb;clear ho hb;go_wp2_with fail;refine Be (El rfl (Fh _) (E9 _) rfl aT.o) rfl ?_;rw[HQ.o];exact⟨aV.o,cf0,by rw[<- HK.o];rfl,CfR.zero _,Ctn.zero,OwnV.nil _ _ _ _,OwnV.nil _ _ _ _⟩
def kg:List UInt8:=[115,40,119,48,58,49,44,105,50,41]
def ke:List UInt8:=[115,40,41]
def cz:List UInt8:=[35,32,97,32,109,111,100,117,108,101,10,112,97,114,116,32,97,32,48,32,48,32,115,116,32,48,49,50,48,48,32,48,58,49,44,52,58,50,10,10,116,97,98,108,101,32,114,50,40,119,97,58,51,41,10]
def cy:List UInt8:=[112,97,114,116,32,97,32,48,32,48,32,45,32,48,48,48,48,48,32,48,58,48,10,99,104,97,110,32,97,32,98,32,115,32,49,32,48,10]
def Kb:Cft:=⟨[(⟨bsOf [97],0,0,true,true,none,2,2,0,1,2,0,0⟩,[(0,1),(4,2)])],[],[ndT0 [⟨4,0,2⟩,⟨1,0,3⟩]]⟩
theorem Qad:Qcl kg=some [⟨3,0,2⟩,⟨1,0,1⟩,⟨2,0,2⟩]:=by kernel_rfl
theorem Qac:Qcl ke=none:=by kernel_rfl
theorem Qab:linesQ 0 cft0 (splitF 10 cz)=.inr Kb:=by kernel_rfl
theorem Qaa:linesQ 0 cft0 (splitF 10 cy)=.inl 2:=by kernel_rfl
theorem Wb:D5 [] [] []=(3,0):=by
 unfold D5;rw[if_neg (by decide)]
theorem lz:parseQ []=(3,0,cft0):=by
 unfold parseQ;rw[if_neg (by decide),linesQ_nil];show (if (D5 [] [] []).1=0 then ((0:Int),(0:Int),cft0) else ((D5 [] [] []).1,0,cft0))=(3,0,cft0);rw[Wb];rfl
theorem ma:D5 Kb.P Kb.C Kb.T=(0,-1):=by
 refine Hs (by decide) (fun j hj=>?_) (fun j hj=>absurd hj (Nat.not_lt_zero _)) fun j hj=>?_
 ·obtain rfl:j=0:=by have:j < 1:=hj;omega
  kernel_rfl
 obtain rfl:j=0:=by have:j < 1:=hj;omega
 show tbW Kb.P Kb.C [⟨4,0,2⟩,⟨1,0,3⟩]=0;have e:=Sq (x:=⟨4,0,2⟩) (k:=.cons ⟨1,0,3⟩ .nil .nil) (by simp[F.ok,fine,kn,F.cnt]);have e2:ofF [⟨4,0,2⟩,⟨1,0,3⟩]=(0,[⟨0,6⟩]):=e.trans (by kernel_rfl);have e3:E4 (Dx [⟨0,6⟩]) (Kb.P.map Prod.fst) Kb.C=0:=by kernel_rfl
 unfold tbW;rw[e2];show (if (0:Int)=0 then (if ([(⟨0,6⟩:Rn)]).any (fun r=>decide ((Kb.P.length:Int)<=r.p))=true then 16 else E4 (Dx [⟨0,6⟩]) (Kb.P.map Prod.fst) Kb.C) else 0)=0;rw[if_pos rfl,if_neg (by decide),e3]
theorem ly:parseQ cz=(0,0,Kb):=by
 unfold parseQ;rw[if_neg (by decide),Qab];show (if (D5 Kb.P Kb.C Kb.T).1=0 then _ else _)=_;rw[ma,if_pos rfl]
theorem lx:parseQ cy=(12,2,cft0):=by
 unfold parseQ;rw[if_neg (by decide),Qaa];rfl
