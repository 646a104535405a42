import Derived.Test.YtfmndmhjjbeokaaGreatDoorLow39
set_option maxHeartbeats 8000000
set_option maxRecDepth 100000
set_option linter.unusedSimpArgs false
set_option linter.unusedVariables false
namespace Go.Proofs.YtfmndmhjjbeokaaGreatDoor
open Go.RowKit Tab Txt
theorem Qv(x:Cf)(z:Int)(hz:¬ z=0)(w:World)(h:∀ W,Below w.heap.size w W->Calls Tryz.prog 30 #[cfv x] W (Ans (.int .i64 z) W)):Calls Tryz.prog 11 #[cfv x] w (Ans (.string (bsOf [])) w):=by
 have hb:=bl1 w (.cells #[.slice x.A1 x.n1 x.c1,.slice x.A2 x.n2 x.c2,.slice x.A3 x.n3 x.c3] 31);have H:=hid (h _ hb);have HB:=hid hb;have hf:∀ o v,(#[Value.slice x.A1 x.n1 x.c1,.slice x.A2 x.n2 x.c2,.slice x.A3 x.n3 x.c3]:Array Value)[o]? = some v->(w.alloc (.cells #[.slice x.A1 x.n1 x.c1,.slice x.A2 x.n2 x.c2,.slice x.A3 x.n3 x.c3] 31)).cell? ⟨w.heap.size,o,none⟩=some v:=fun o v hv=>(Ab _ _ _ _ _).trans hv;have m0:=hf 0 _ rfl;have m1:=hf 1 _ rfl;have m2:=hf 2 _ rfl;have i1:(z != 0)=true:=Bz.2 hz;clear h hb hf hz;unfold cfv at H |-;go_in;go_wp2_with fail;refine H.o.mono ?_;rintro e w1⟨rfl,h1⟩;clear m0 m1 m2;go_wp2;go_ret;exact⟨rfl,HB.o.trans (h1.mono HB.o.size)⟩
theorem Sc(w:World):Calls Tryz.prog 30 #[cfv cf0] w (Ans (.int .i64 3) w):=by
 have:=Jp none none none 0 0 0 0 0 0 [] [] [] w ⟨rfl,RdV.nil⟩ ⟨rfl,RdV.nil⟩ ⟨rfl,RdV.nil⟩ (fun x hx=>(by cases hx)) (fun x hx=>(by cases hx)) (Ag _);rw[Wb] at this;exact this
theorem Rz(w:World):Calls Tryz.prog 11 #[cfv cf0] w (Ans (.string (bsOf [])) w):=Qv cf0 3 (by decide) w fun W _=>Sc W
theorem Zz(g:Nat)(w:World)(h:RdN w w.heap.size (some ⟨g,0,none⟩) 1 [⟨2,0,5⟩])(ht:Hr w):Calls Tryz.prog 13 #[.slice (some ⟨g,0,none⟩) 1 1] w (Ans (.string (bsOf [105,53])) w):=by
 have aA:(F.cons (⟨2,0,5⟩:Nd) .nil .nil).ok:=by simp[F.ok,fine,kn,F.cnt]
 have hr:=Ij _ 1 1 [⟨2,0,5⟩] ⟨2,0,5⟩ .nil w h (Ag _) (by omega) aA rfl;have:=Nr _ 1 1 ⟨2,0,5⟩ .nil w h (Ag _) (by omega) aA hr ht;exact this
theorem nf{x:Cf}{w:World}{B:Nat}(hr:CfR w x)(hc:Ctn x Kb)(ho:OwnV 60 11 w B x.A1 x.n1 x.c1 (x.P.flatMap pcq))(hp:OwnV 34 1 w B x.A3 x.n3 x.c3 (x.T.flatMap tcn)):
  ∃(g1 g3:Nat) (pa:Option Addr) (pc:Nat) (tA:Option Addr) (tc:Nat) (nm:ByteArray) (b p h0 h1 h3 h4:Int),x.A1=some ⟨g1,0,none⟩/\x.A3=some ⟨g3,0,none⟩/\x.n1=1/\x.n3=1/\
   OwnV 60 11 w B (some ⟨g1,0,none⟩) 1 x.c1 [.string nm,.int .i64 b,.int .i64 p,.bool true,.bool true,.slice pa 2 pc,.int .i64 h0,.int .i64 h1,.int .i64 2,.int .i64 h3,.int .i64 h4]/\OwnV 34 1 w B (some ⟨g3,0,none⟩) 1 x.c3 [.slice tA 2 tc]:=by
 have aC:=hr.lens;have aG:=hr.tt;have e1:x.P.map Ec=[(⟨bsOf [97],0,0,true,true,none,2,2,0,1,2,0,0⟩,[(0,1),(4,2)])]:=hc.ep;have e3:x.T.map (fun t=>ndT0 t.l)=[ndT0 [⟨4,0,2⟩,⟨1,0,3⟩]]:=hc.et;have l1:x.P.length=1:=by have:=congrArg List.length e1;rwa [Bi] at this
 have l3:x.T.length=1:=by have:=congrArg List.length e3;rwa [Bi] at this
 obtain⟨y,hy⟩:=List.length_eq_one_iff.1 l1;obtain⟨t,ht⟩:=List.length_eq_one_iff.1 l3;have n1:x.n1=1:=by rw[<- hr.pp.len,l1]
 have n3:x.n3=1:=by rw[<- hr.tb.len,l3]
 rw[hy] at e1 ho;rw[ht] at e3 hp;rw[n1] at ho;rw[n3] at hp;obtain⟨g1,aF,_⟩:=OwnV.block ho (by omega);obtain⟨g3,aE,_⟩:=OwnV.block hp (by omega);rw[aF] at ho;rw[aE] at hp;have aI:=aC y (by rw[hy];simp);have aD:=(aG t (by rw[ht];simp)).rd.len;injection e1 with e1;injection e3 with e3;obtain⟨⟨nm,bu,pe,sc,st,pa,pn,pc,h0,h1,h2,h3,h4⟩,L⟩:=y;unfold Ec at e1;simp only[Prod.mk.injEq,PtV.mk.injEq] at e1;obtain⟨⟨-,-,-,rfl,rfl,-,-,-,-,-,rfl,-,-⟩,rfl⟩:=e1;have aB:pn=2:=aI.symm;subst aB;have aH:t.l=[⟨4,0,2⟩,⟨1,0,3⟩]:=by unfold ndT0 at e3;injection e3
 rw[aH] at aD;have aA:t.n=2:=aD.symm;refine⟨g1,g3,pa,pc,t.A,t.c,nm,bu,pe,h0,h1,h3,h4,aF,aE,n1,n3,ho,?_⟩;have:tcn t=[.slice t.A 2 t.c]:=by unfold tcn;rw[aA]
 rw[Cu,List.flatMap_nil,Az,this] at hp;exact hp
theorem S6(w:World)(ht:Hr w):Calls Tryz.prog 16 #[] w (Ans (.bool true) w):=by
 have HT:=hid ht;have H1:=hid fun W=>Kj kg W (by decide);have H2:=hid fun W=>Kj ke W (by decide);have H3:=hid fun W=>If [] W (by decide);have H4:=hid fun W=>If cz W (by decide);have H5:=hid fun W=>If cy W (by decide);rw[Qad] at H1;rw[Qac] at H2;unfold To at H3 H4 H5;rw[lz] at H3;rw[ly] at H4;rw[lx] at H5;clear ht;go_in;go_wp2_with fail;refine(H1.o w).mono ?_;rintro e w1⟨bB,A1,c1,rfl,_⟩;have B1:=hid bB;clear bB;go_wp2_with fail;refine(H2.o w1).mono ?_;rintro e w2⟨bA,rfl⟩;have B2:=hid (B1.o.trans (bA.mono B1.o.size));clear bA;go_wp2_with fail;refine(H3.o w2).mono ?_;rintro e w3⟨aZ,x3,rfl,_⟩;have B3:=hid (B2.o.trans (aZ.mono B2.o.size));have aV:=bl1 w3 (.cells #[.slice x3.A1 x3.n1 x3.c1,.slice x3.A2 x3.n2 x3.c2,.slice x3.A3 x3.n3 x3.c3] 31);have bG:=hid (B3.o.trans (aV.mono B3.o.size));clear aZ aV;unfold cfv;go_wp2_with fail;refine(H4.o _).mono ?_;rintro e w4⟨aY,x4,rfl,aO,aT,aQ,aP⟩;obtain⟨g1,g3,pa,pc,tA,tc,nm,bu,pe,h0,h1,h3,h4,ea,eb,bD,bC,o1,o3⟩:=nf aO aT aQ aP;clear aO aT aQ aP;obtain⟨X1,X2,X3,y1,y2,y3,z1,z2,z3,XP,XC,XT⟩:=x4;dsimp only at ea eb bD bC o1 o3;subst ea;subst eb;subst bD;subst bC;have B4:=hid (bG.o.trans (aY.mono bG.o.size));have aF:=bl1 w4 (.cells #[.slice (some ⟨g1,0,none⟩) 1 z1,.slice X2 y2 z2,.slice (some ⟨g3,0,none⟩) 1 z3] 31);have aK:=hid (B4.o.trans (aF.mono B4.o.size));have aM:=OwnV.below o1 rfl aF
 have aL:=OwnV.below o3 rfl aF
 have aR:(w4.alloc (.cells #[.slice (some ⟨g1,0,none⟩) 1 z1,.slice X2 y2 z2,.slice (some ⟨g3,0,none⟩) 1 z3] 31)).cell? ⟨w4.heap.size,0,none⟩=some (.slice (some ⟨g1,0,none⟩) (1:Nat) z1):=Ab _ _ _ _ _;have aD:(w4.alloc (.cells #[.slice (some ⟨g1,0,none⟩) 1 z1,.slice X2 y2 z2,.slice (some ⟨g3,0,none⟩) 1 z3] 31)).cell? ⟨w4.heap.size,2,none⟩=some (.slice (some ⟨g3,0,none⟩) (1:Nat) z3):=Ab _ _ _ _ _;have aC:w4.heap.size < (w4.alloc (.cells #[.slice (some ⟨g1,0,none⟩) 1 z1,.slice X2 y2 z2,.slice (some ⟨g3,0,none⟩) 1 z3] 31)).heap.size:=by simp
 have O1:=hid aM;have O3:=hid aL;have bF:=hid aR;have aE:=hid aD;have aA:=hid aC;clear aY aF o1 o3 aM aL aR aD aC;unfold cfv;go_wp2_with fail;generalize w4.alloc (.cells #[.slice (some ⟨g1,0,none⟩) 1 z1,.slice X2 y2 z2,.slice (some ⟨g3,0,none⟩) 1 z3] 31)=v4 at aK O1 O3 bF aE aA |-;refine(H5.o v4).mono ?_;rintro e w5⟨aI,x5,rfl,_⟩;have aU:=bl1 w5 (.cells #[.slice x5.A1 x5.n1 x5.c1,.slice x5.A2 x5.n2 x5.c2,.slice x5.A3 x5.n3 x5.c3] 31);have aB:=aI.trans (aU.mono aI.size);have B5:=hid (aK.o.trans (aB.mono aK.o.size));have p1:=OwnV.below O1.o rfl aB;have p3:=OwnV.below O3.o rfl aB;have aJ:=hid (HT.o.on B5.o);have m0:=(aB.cell (p:=⟨w4.heap.size,0,none⟩) aA.o).trans bF.o;have m2:=(aB.cell (p:=⟨w4.heap.size,2,none⟩) aA.o).trans aE.o;have c3:=Ah p1 3 (by omega);have c4:=Ah p1 4 (by omega);have c5:=Ah p1 5 (by omega);have c8:=Ah p1 8 (by omega);have d0:=Ah p3 0 (by omega);have c3:_=some (Value.bool true):=c3;have c4:_=some (Value.bool true):=c4;have c5:_=some (Value.slice pa 2 pc):=c5;have c8:_=some (Value.int .i64 2):=c8;have d0:_=some (Value.slice tA 2 tc):=d0;clear aI aU aB p1 p3;unfold cfv;have aN:(w5.alloc (.cells #[.slice x5.A1 x5.n1 x5.c1,.slice x5.A2 x5.n2 x5.c2,.slice x5.A3 x5.n3 x5.c3] 31)).heap.size=w5.heap.size+1:=by simp
 have aH:=bl1 (w5.alloc (.cells #[.slice x5.A1 x5.n1 x5.c1,.slice x5.A2 x5.n2 x5.c2,.slice x5.A3 x5.n3 x5.c3] 31)) (.cells #[.int .i64 2,.int .i64 0,.int .i64 5] 54);have aG:=rdV_new (w5.alloc (.cells #[.slice x5.A1 x5.n1 x5.c1,.slice x5.A2 x5.n2 x5.c2,.slice x5.A3 x5.n3 x5.c3] 31)) #[.int .i64 2,.int .i64 0,.int .i64 5] 54 (ns [⟨2,0,5⟩]) rfl;rw[aN] at aG;have bE:=hid (Zz (w5.heap.size+1) _ ⟨rfl,aG,fun z hz=>by rw[Cc.1 hz];exact⟨⟨by decide,by decide⟩,⟨by decide,by decide⟩,⟨by decide,by decide⟩⟩⟩ (aJ.o.on aH));have B6:=hid (B5.o.trans (aH.mono B5.o.size));have q5:((bsOf [105,53]).toList == [105,53])=true:=by rw[Hb _ _ (by kernel_rfl)];exact Ae rfl
 have q6:(bsOf []).toList.isEmpty=true:=by rw[Vu];exact Ae rfl
 clear aN aH aG;go_wp2_with fail;refine bE.o.mono ?_;rintro e w7⟨rfl,aX⟩;have B7:=hid (B6.o.trans (aX.mono B6.o.size));clear aX bE m0 m2 c3 c4 c5 c8 d0;generalize bsOf [105,53]=s5 at q5;go_wp2_with fail;refine(Rz w7).mono ?_;rintro e w8⟨rfl,bH⟩;generalize bsOf []=s6 at q6;go_wp2;go_ret;exact⟨rfl,B7.o.trans (bH.mono B7.o.size)⟩
structure TwS(B BN BC gc:Nat)(L:List Value)(A1:Option Addr)(n1 c1:Nat)(lP pc:List Value)(AN:Option Addr)(nn cn:Nat)(lN:List Value)(nv:Value)(W0:World)(live:Nat->Bool)(a:Act)(w:World):Prop where
 kp:KpS (fun k=>k=gc\/obk A1=some k\/obk AN=some k) W0 w
 p0:live 4=false->OwnV 60 11 w B A1 n1 c1 lP
 p1:live 3=true->live 4=false->∃ gb,a.eval (.tmp 49)=.slice (some ⟨gb,0,none⟩) 1 1/\OwnV 60 11 w W0.heap.size (some ⟨gb,0,none⟩) 1 1 pc
 p2:live 4=true->∃ A' c',(live 11=false->a.eval (.tmp 50)=.slice A' (n1+1:Nat) c')/\OwnV 60 11 w B A' (n1+1) c' (lP++pc)/\(live 11=true->OwnV 31 3 w BC (some ⟨gc,0,none⟩) 1 1 (L.set 0 (.slice A' (n1+1:Nat) c')))
 c0:live 11=false->OwnV 31 3 w BC (some ⟨gc,0,none⟩) 1 1 L
 q0:live 9=false->OwnV 9 1 w BN AN nn cn lN
 q1:live 8=true->live 9=false->∃ gb,a.eval (.tmp 54)=.slice (some ⟨gb,0,none⟩) 1 1/\OwnV 9 1 w W0.heap.size (some ⟨gb,0,none⟩) 1 1 [nv]
 q2:live 9=true->∃ A' c',a.eval (.tmp 55)=.slice A' (nn+1:Nat) c'/\OwnV 9 1 w BN A' (nn+1) c' (lN++[nv])/\(live 12=true->a.eval (.tmp 6)=.slice A' (nn+1:Nat) c')
 t6:live 12=false->a.eval (.tmp 6)=.slice AN nn cn
section
variable {B BN BC gc:Nat} {L:List Value} {A1:Option Addr} {n1 c1:Nat} {lP pc:List Value} {AN:Option Addr} {nn cn:Nat} {lN:List Value} {nv:Value} {W0:World} {live:Nat->Bool} {a:Act} {w:World}
theorem TwS.upd(h:TwS B BN BC gc L A1 n1 c1 lP pc AN nn cn lN nv W0 live a w)(i:Nat)(d:Tmp)(v:Value)(hi:i≠3/\i≠4/\i≠8/\i≠9/\i≠11/\i≠12:=by decide)(hd:d≠49/\d≠50/\d≠54/\d≠55/\d≠6:=by decide):TwS B BN BC gc L A1 n1 c1 lP pc AN nn cn lN nv W0 (Rgs.upd live i) (a.put (some d) v) w:=by
 obtain⟨i1,i2,i3,i4,i5,i6⟩:=hi;obtain⟨d1,d2,d3,d4,d5⟩:=hd;refine⟨h.kp,?_,?_,?_,?_,?_,?_,?_,?_⟩
 ·rw[D4 i2];exact h.p0
 ·rw[D4 i1,D4 i2,Reg.eval_other _ _ _ _ d1];exact h.p1
 ·rw[D4 i2,D4 i5,Reg.eval_other _ _ _ _ d2];exact h.p2
 ·rw[D4 i5];exact h.c0
 ·rw[D4 i4];exact h.q0
 ·rw[D4 i3,D4 i4,Reg.eval_other _ _ _ _ d3];exact h.q1
 ·rw[D4 i4,D4 i6,Reg.eval_other _ _ _ _ d4,Reg.eval_other _ _ _ _ d5];exact h.q2
 rw[D4 i6,Reg.eval_other _ _ _ _ d5];exact h.t6
theorem TwS.up(h:TwS B BN BC gc L A1 n1 c1 lP pc AN nn cn lN nv W0 live a w){i:Nat}{d:Tmp}{v:Value}(hi:i≠3/\i≠4/\i≠8/\i≠9/\i≠11/\i≠12:=by decide)(hd:d≠49/\d≠50/\d≠54/\d≠55/\d≠6:=by decide):TwS B BN BC gc L A1 n1 c1 lP pc AN nn cn lN nv W0 (Rgs.upd live i) (a.put (some d) v) w:=h.upd i d v hi hd
theorem TwS.litP(h:TwS B BN BC gc L A1 n1 c1 lP pc AN nn cn lN nv W0 live a w)(h4:live 4=false)(aA:live 11=false)(hl:pc.length=11)(hz:49 < a.tmps.size):
  TwS B BN BC gc L A1 n1 c1 lP pc AN nn cn lN nv W0 (Rgs.upd live 3) (a.put (some 49) (.slice (some ⟨w.heap.size,0,none⟩) 1 1)) (w.alloc (.cells pc.toArray 60)):=by
 have hb:=bl1 w (.cells pc.toArray 60);refine⟨h.kp.trans (KpS.bel hb),?_,?_,?_,?_,?_,?_,?_,?_⟩
 ·rw[D4 (by decide)];exact fun e=>OwnV.below (h.p0 e) rfl hb
 ·exact fun _ _=>⟨_,Reg.eval_same _ _ _ hz,by simpa using D7 w 60 11 W0.heap.size pc.toArray 1 (by simpa using hl) h.kp.size (by unfold maxLen;omega)⟩
 ·rw[D4 (by decide),h4];exact fun e=>by cases e
 ·rw[D4 (by decide)];exact fun e=>OwnV.below (h.c0 e) rfl hb
 ·rw[D4 (by decide)];exact fun e=>OwnV.below (h.q0 e) rfl hb
 ·rw[D4 (by decide),D4 (by decide),Reg.eval_other _ _ _ _ (by decide)];exact fun e1 e2=>by obtain⟨gb,q1,q2⟩:=h.q1 e1 e2;exact⟨gb,q1,OwnV.below q2 rfl hb⟩
 ·rw[D4 (by decide),D4 (by decide),Reg.eval_other _ _ _ _ (by decide),Reg.eval_other _ _ _ _ (by decide)];exact fun e=>by obtain⟨A',c',q1,q2,q3⟩:=h.q2 e;exact⟨A',c',q1,OwnV.below q2 rfl hb,q3⟩
 rw[D4 (by decide),Reg.eval_other _ _ _ _ (by decide)];exact h.t6
theorem TwS.litN(h:TwS B BN BC gc L A1 n1 c1 lP pc AN nn cn lN nv W0 live a w)(h9:live 9=false)(hz:54 < a.tmps.size):
  TwS B BN BC gc L A1 n1 c1 lP pc AN nn cn lN nv W0 (Rgs.upd live 8) (a.put (some 54) (.slice (some ⟨w.heap.size,0,none⟩) 1 1)) (w.alloc (.cells #[nv] 9)):=by
 have hb:=bl1 w (.cells #[nv] 9);refine⟨h.kp.trans (KpS.bel hb),?_,?_,?_,?_,?_,?_,?_,?_⟩
 ·rw[D4 (by decide)];exact fun e=>OwnV.below (h.p0 e) rfl hb
 ·rw[D4 (by decide),D4 (by decide),Reg.eval_other _ _ _ _ (by decide)];exact fun e1 e2=>by obtain⟨gb,q1,q2⟩:=h.p1 e1 e2;exact⟨gb,q1,OwnV.below q2 rfl hb⟩
 ·rw[D4 (by decide),D4 (by decide),Reg.eval_other _ _ _ _ (by decide)];exact fun e=>by obtain⟨A',c',q1,q2,q3⟩:=h.p2 e;exact⟨A',c',q1,OwnV.below q2 rfl hb,fun e2=>OwnV.below (q3 e2) rfl hb⟩
 ·rw[D4 (by decide)];exact fun e=>OwnV.below (h.c0 e) rfl hb
 ·rw[D4 (by decide)];exact fun e=>OwnV.below (h.q0 e) rfl hb
 ·exact fun _ _=>⟨_,Reg.eval_same _ _ _ hz,D7 w 9 1 W0.heap.size #[nv] 1 rfl h.kp.size (by unfold maxLen;omega)⟩
 ·rw[D4 (by decide),h9];exact fun e=>by cases e
 rw[D4 (by decide),Reg.eval_other _ _ _ _ (by decide)];exact h.t6
theorem TwS.appP(h:TwS B BN BC gc L A1 n1 c1 lP pc AN nn cn lN nv W0 live a w)(h3:live 3=true)(h4:live 4=false)(aB:live 11=false)(hl:pc.length=11)(h1:∀ u∈pc,u.oneCell'=true)(hn:n1<=1048577)(hB:B<=W0.heap.size)(hz:50 < a.tmps.size):
  ∃ gb,a.eval (.tmp 49)=.slice (some ⟨gb,0,none⟩) 1 1/\∃ A' c' w',(Builtin.append_ #[27,27] 27 #[.slice A1 n1 c1,.slice (some ⟨gb,0,none⟩) 1 1]).run Tryz.prog w=.ok (.slice A' (n1+1) c') w'/\
   TwS B BN BC gc L A1 n1 c1 lP pc AN nn cn lN nv W0 (Rgs.upd live 4) (a.put (some 50) (.slice A' (n1+1:Nat) c')) w':=by
 obtain⟨gb,hq,hr⟩:=h.p1 h3 h4;have ho:=h.p0 h4;obtain⟨A',c',w',aA,g1,g2,g3⟩:=Gn mf w B A1 n1 c1 lP ho ⟨gb,0,none⟩ 1 1 pc w.heap.size (OwnV.rd hr) (by rw[hl]) Cv h1 (by omega) (by unfold maxLen;omega) (Ai hB h.kp.size);refine⟨gb,hq,A',c',w',aA,h.kp.trans (KpS.grew g3 fun k hk=>.inr (.inl hk)),?_,?_,?_,?_,?_,?_,?_,?_⟩
 ·exact fun e=>absurd e (by rw[Rgs.upd_self];decide)
 ·exact fun _ e=>absurd e (by rw[Rgs.upd_self];decide)
 ·rw[D4 (show 4≠11 by decide)];exact fun _=>⟨A',c',fun _=>Reg.eval_same _ _ _ hz,g1,fun e=>by rw[aB] at e;cases e⟩
 ·rw[D4 (by decide)];exact fun e=>OwnV.grown (h.c0 e) ho (by decide) g3
 ·rw[D4 (by decide)];exact fun e=>OwnV.grown (h.q0 e) ho (by decide) g3
 ·rw[D4 (by decide),D4 (by decide),Reg.eval_other _ _ _ _ (by decide)];exact fun e1 e2=>by obtain⟨gb,q1,q2⟩:=h.q1 e1 e2;exact⟨gb,q1,OwnV.grown q2 ho (by decide) g3⟩
 ·rw[D4 (by decide),D4 (by decide),Reg.eval_other _ _ _ _ (by decide),Reg.eval_other _ _ _ _ (by decide)];exact fun e=>by obtain⟨A2,c2,q1,q2,q3⟩:=h.q2 e;exact⟨A2,c2,q1,OwnV.grown q2 ho (by decide) g3,q3⟩
 rw[D4 (by decide),Reg.eval_other _ _ _ _ (by decide)];exact h.t6
theorem TwS.appN(h:TwS B BN BC gc L A1 n1 c1 lP pc AN nn cn lN nv W0 live a w)(h8:live 8=true)(h9:live 9=false)(aB:live 12=false)(h1:nv.oneCell'=true)(hn:nn<=1048577)(hB:BN<=W0.heap.size)(hz:55 < a.tmps.size):
  ∃ gb,a.eval (.tmp 54)=.slice (some ⟨gb,0,none⟩) 1 1/\∃ A' c' w',(Builtin.append_ #[39,39] 39 #[.slice AN nn cn,.slice (some ⟨gb,0,none⟩) 1 1]).run Tryz.prog w=.ok (.slice A' (nn+1) c') w'/\
   TwS B BN BC gc L A1 n1 c1 lP pc AN nn cn lN nv W0 (Rgs.upd live 9) (a.put (some 55) (.slice A' (nn+1:Nat) c')) w':=by
 obtain⟨gb,hq,hr⟩:=h.q1 h8 h9;have ho:=h.q0 h9;obtain⟨A',c',w',aA,g1,g2,g3⟩:=Gn elS w BN AN nn cn lN ho ⟨gb,0,none⟩ 1 1 [nv] w.heap.size (OwnV.rd hr) rfl Cv (by intro u hu;rw[Cc.1 hu];exact h1) (by omega) (by unfold maxLen;omega) (Ai hB h.kp.size);refine⟨gb,hq,A',c',w',aA,h.kp.trans (KpS.grew g3 fun k hk=>.inr (.inr hk)),?_,?_,?_,?_,?_,?_,?_,?_⟩
 ·rw[D4 (by decide)];exact fun e=>OwnV.grown (h.p0 e) ho (by decide) g3
 ·rw[D4 (by decide),D4 (by decide),Reg.eval_other _ _ _ _ (by decide)];exact fun e1 e2=>by obtain⟨gb,q1,q2⟩:=h.p1 e1 e2;exact⟨gb,q1,OwnV.grown q2 ho (by decide) g3⟩
 ·rw[D4 (by decide),D4 (by decide),Reg.eval_other _ _ _ _ (by decide)];exact fun e=>by obtain⟨A2,c2,q1,q2,q3⟩:=h.p2 e;exact⟨A2,c2,q1,OwnV.grown q2 ho (by decide) g3,fun e2=>OwnV.grown (q3 e2) ho (by decide) g3⟩
 ·rw[D4 (by decide)];exact fun e=>OwnV.grown (h.c0 e) ho (by decide) g3
 ·exact fun e=>absurd e (by rw[Rgs.upd_self];decide)
 ·exact fun _ e=>absurd e (by rw[Rgs.upd_self];decide)
 ·rw[D4 (show 9≠12 by decide),aB];exact fun _=>⟨A',c',Reg.eval_same _ _ _ hz,g1,fun e=>by cases e⟩
 rw[D4 (by decide),Reg.eval_other _ _ _ _ (by decide)];exact h.t6
theorem TwS.put(h:TwS B BN BC gc L A1 n1 c1 lP pc AN nn cn lN nv W0 live a w)(h4:live 4=true)(aB:live 11=false)(hL:L.length=3):
  ∃ A' c',a.eval (.tmp 50)=.slice A' (n1+1:Nat) c'/\TwS B BN BC gc L A1 n1 c1 lP pc AN nn cn lN nv W0 (Rgs.upd live 11) a (w.setCell ⟨gc,0,none⟩ (.slice A' (n1+1:Nat) c')):=by
 obtain⟨A',c',hq,ho,_⟩:=h.p2 h4;have hc:=h.c0 aB;have aA:∀ {E s B' n c:Nat} {A:Option Addr} {l:List Value},OwnV E s w B' A n c l->E≠31->OwnV E s (w.setCell ⟨gc,0,none⟩ (.slice A' (n1+1:Nat) c')) B' A n c l:=fun q e=>OwnV.other q _ _ (OwnV.apart' q hc e);refine⟨A',c',hq aB,h.kp.trans (KpS.set (.inl rfl) _ _),?_,?_,?_,?_,?_,?_,?_,?_⟩
 ·rw[D4 (by decide),h4];exact fun e=>by cases e
 ·rw[D4 (by decide),D4 (by decide),h4];exact fun _ e=>by cases e
 ·exact fun _=>⟨A',c',fun e=>absurd e (by rw[Rgs.upd_self];decide),aA ho (by decide),fun _=>OwnV.set hc 0 _ (by omega)⟩
 ·exact fun e=>absurd e (by rw[Rgs.upd_self];decide)
 ·rw[D4 (by decide)];exact fun e=>aA (h.q0 e) (by decide)
 ·rw[D4 (by decide),D4 (by decide)];exact fun e1 e2=>by obtain⟨gb,q1,q2⟩:=h.q1 e1 e2;exact⟨gb,q1,aA q2 (by decide)⟩
 ·rw[D4 (by decide),D4 (by decide)];exact fun e=>by obtain⟨A2,c2,q1,q2,q3⟩:=h.q2 e;exact⟨A2,c2,q1,aA q2 (by decide),q3⟩
 rw[D4 (by decide)];exact h.t6
theorem TwS.asg(h:TwS B BN BC gc L A1 n1 c1 lP pc AN nn cn lN nv W0 live a w)(h9:live 9=true)(hz:6 < a.tmps.size):
  ∃ A' c',a.eval (.tmp 55)=.slice A' (nn+1:Nat) c'/\TwS B BN BC gc L A1 n1 c1 lP pc AN nn cn lN nv W0 (Rgs.upd live 12) (a.put (some 6) (.slice A' (nn+1:Nat) c')) w:=by
 obtain⟨A',c',hq,ho,_⟩:=h.q2 h9;refine⟨A',c',hq,h.kp,?_,?_,?_,?_,?_,?_,?_,?_⟩
 ·rw[D4 (by decide)];exact h.p0
 ·rw[D4 (by decide),D4 (by decide),Reg.eval_other _ _ _ _ (by decide)];exact h.p1
 ·rw[D4 (by decide),D4 (by decide),Reg.eval_other _ _ _ _ (by decide)];exact h.p2
 ·rw[D4 (by decide)];exact h.c0
 ·rw[D4 (by decide),h9];exact fun e=>by cases e
 ·rw[D4 (by decide),D4 (by decide),h9];exact fun _ e=>by cases e
 ·exact fun _=>⟨A',c',by rw[Reg.eval_other _ _ _ _ (by decide)];exact hq,ho,fun _=>Reg.eval_same _ _ _ hz⟩
 exact fun e=>absurd e (by rw[Rgs.upd_self];decide)
end
section
variable {B gc:Nat} {A1 A2 A3 A':Option Addr} {n1 n2 n3 c1 c2 c3 c':Nat} {P:List Pq} {C:List ChV} {T:List NdT} {w w':World}
theorem CvS.part2{S:Nat->Prop}{BN nn cn:Nat}{AN:Option Addr}{lN:List Value}(h:CvS B gc ⟨A1,A2,A3,n1,n2,n3,c1,c2,c3,P,C,T⟩ w)(hN:OwnV 9 1 w BN AN nn cn lN)(hk:KpS S w w')(hS:∀ k,S k->k=gc\/obk A1=some k\/obk AN=some k)(y:Pq)(hp:OwnV 60 11 w' B A' (n1+1) c' (P.flatMap pcq++pcq y))
  (aB:OwnV 31 3 w' B (some ⟨gc,0,none⟩) 1 1 [.slice A' (n1+1:Nat) c',.slice A2 n2 c2,.slice A3 n3 c3]) (hy:OwnV 62 2 w' B y.1.pa y.1.pn y.1.pc (y.2.flatMap prc))
  (hc:Ef y.1.per/\y.1.name.size<=140737488351232/\y.2.length=y.1.pn/\y.1.pn*16<=140737488351232) (hn:(n1+1)*104<=140737488351232):CvS B gc ⟨A',A2,A3,n1+1,n2,n3,c',c2,c3,P++[y],C,T⟩ w':=by
 have aA:=h.s.pp.own;have o:∀ {E s n c:Nat} {A:Option Addr} {l:List Value},OwnV E s w B A n c l->E≠9->E≠31->E≠60->OwnV E s w' B A n c l:=fun q e1 e2 e3=>hk.own q fun k hk hs=>by
  rcases hS k hs with rfl | e | e
  ·exact Hj q h e2 hk
  ·exact OwnV.apart q aA e3 k hk e
  exact OwnV.apart q hN e1 k hk e
 refine⟨⟨aB,⟨by rw[Aa,h.s.pp.len];rfl,by rw[Bu];simpa using hp⟩,⟨h.s.ch.len,o h.s.ch.own (by decide) (by decide) (by decide)⟩,⟨h.s.tb.len,o h.s.tb.own (by decide) (by decide) (by decide)⟩⟩,fun z hz=>?_,fun z hz=>o (h.tt z hz) (by decide) (by decide) (by decide),⟨by show (P++[y]).length=n1+1;rw[Aa,h.s.pp.len];rfl,h.ok.l2,h.ok.l3,fun z hz=>?_,h.ok.tt,by show n1+1<=_;omega,h.ok.m2,h.ok.m3,hn,h.ok.z.2.1,h.ok.z.2.2.1,fun z hz=>?_,h.ok.z.2.2.2.2⟩⟩
 ·rcases Ay.1 hz with hz | hz
  ·exact o (h.pt z hz) (by decide) (by decide) (by decide)
  rw[Cc.1 hz];exact hy
 ·rcases Ay.1 hz with hz | hz
  ·exact h.ok.pt z hz
  rw[Cc.1 hz];exact⟨hc.1,hc.2.1,hc.2.2.1,by omega⟩
 rcases Ay.1 hz with hz | hz
 ·exact h.ok.z.2.2.2.1 z hz
 rw[Cc.1 hz];exact hc.2.2.2
theorem CvS.chan2(h:CvS B gc ⟨A1,A2,A3,n1,n2,n3,c1,c2,c3,P,C,T⟩ w)(hk:Grew A2 A' w w')(y:ChV)(hp:OwnV 66 6 w' B A' (n2+1) c' ((C++[y]).flatMap cc))(hn:(n2+1)*48<=140737488351232):
  CvS B gc ⟨A1,A',A3,n1,n2+1,n3,c1,c',c3,P,C++[y],T⟩ (w'.setCell ⟨gc,1,none⟩ (.slice A' (n2+1:Nat) c')):=CvS.chan h hk hp hn
theorem CvS.tab2(h:CvS B gc ⟨A1,A2,A3,n1,n2,n3,c1,c2,c3,P,C,T⟩ w)(hg:Grew A3 A' w w')(y:NdT)(ho:OwnV 34 1 w' B A' (n3+1) c' ((T++[y]).flatMap tcn))(hy:OwnV 54 3 w B y.A y.n y.c (ns y.l))(hl:y.l.length=y.n)(hz:∀ z∈y.l,NdIn z)(hq:y.n*24<=140737488351232)(hn:(n3+1)*24<=140737488351232):
  CvS B gc ⟨A1,A2,A',n1,n2,n3+1,c1,c2,c',P,C,T++[y]⟩ (w'.setCell ⟨gc,2,none⟩ (.slice A' (n3+1:Nat) c')):=by
 have aA:=h.s.tb.own;have cf:=h.s.cf.grew aA (by decide) hg;have p1:=h.s.pp.own.grew aA (by decide) hg;have t1:=h.s.ch.own.grew aA (by decide) hg;refine⟨⟨cf.set 2 _ (by show 2 < 3;omega),⟨h.s.pp.len,p1.other _ _ (p1.ne' cf (by decide))⟩,⟨h.s.ch.len,t1.other _ _ (t1.ne' cf (by decide))⟩,⟨by rw[Aa,h.s.tb.len];rfl,ho.other _ _ (ho.ne' cf (by decide))⟩⟩,fun z hz=>?_,fun z hz=>?_,⟨h.ok.l1,h.ok.l2,by show (T++[y]).length=n3+1;rw[Aa,h.s.tb.len];rfl,h.ok.pt,fun z hz=>?_,h.ok.m1,h.ok.m2,by show n3+1<=_;omega,h.ok.z.1,h.ok.z.2.1,hn,h.ok.z.2.2.2.1,fun z hz=>?_⟩⟩
 ·have p:=(h.pt z hz).grew aA (by decide) hg;exact p.other _ _ (p.ne' cf (by decide))
 ·rcases Ay.1 hz with hz | hz
  ·have p:=(h.tt z hz).grew aA (by decide) hg;exact p.other _ _ (p.ne' cf (by decide))
  rw[Cc.1 hz];have p:=hy.grew aA (by decide) hg;exact p.other _ _ (p.ne' cf (by decide))
 ·rcases Ay.1 hz with hz | hz
  ·exact h.ok.tt z hz
  rw[Cc.1 hz];exact⟨hl,‹_›,by omega⟩
 rcases Ay.1 hz with hz | hz
 ·exact h.ok.z.2.2.2.2 z hz
 rw[Cc.1 hz];exact hq
end
namespace Txt
theorem numL_inv(m:Nat):∀(s:List UInt8) (a n:Nat) (t:List UInt8),0 < a->a<=m->numL m a s=some (n,t)->numB a++s=numB n++t/\n<=m
 | [],a,n,t,h0,hm,h=>by
  unfold numL at h
  rw[if_neg (by omega)] at h
  injection h with h
  injection h with h1 h2
  subst h1;subst h2
  exact⟨rfl,hm⟩
 | c::s,a,n,t,h0,hm,h=>by
  rw[numL_cons] at h
  split at h
  ·rename_i hd
   have hb:=isD_nat hd
   split at h
   ·cases h
   ·obtain⟨h1,h2⟩:=numL_inv m s _ n t (by omega) (by omega) h
    rw[numB_high (show 10<=a*10+(c.toNat - 48) by omega),show (a*10+(c.toNat - 48)) / 10=a by omega,show (a*10+(c.toNat - 48)) % 10=c.toNat - 48 by omega,dg_of hd,Ar] at h1
    exact⟨h1,h2⟩
  ·rw[if_neg (by omega)] at h
   injection h with h
   injection h with h1 h2
   subst h1;subst h2
   exact⟨rfl,hm⟩
theorem numS_inv{m:Nat}{s:List UInt8}{n:Nat}{t:List UInt8}(h:numS m s=some (n,t)):s=numB n++t/\n<=m:=by
 cases s with
 | nil=>cases h
 | cons c r =>
  rw[numS_cons] at h;split at h
  ·rename_i hc;injection h with h;injection h with h1 h2;subst h1;subst h2;subst hc;exact⟨rfl,Cr _⟩
  rename_i hc;rw[numL_cons] at h;split at h
  ·rename_i hd;have hb:=isD_nat hd;split at h
   ·cases h
   have hp:0 < 0*10+(c.toNat - 48):=by
    rcases Dm (c.toNat - 48) with h3 | h3
    ·exact absurd (Cz.1 (show c.toNat=(48:UInt8).toNat by rw[show (48:UInt8).toNat=48 from rfl];omega)) hc
    omega
   obtain⟨h1,h2⟩:=numL_inv m r _ n t hp (by omega) h;rw[numB_low (show 0*10+(c.toNat - 48) < 10 by omega),show 0*10+(c.toNat - 48)=c.toNat - 48 by omega,dg_of hd] at h1;exact⟨h1,h2⟩
  rw[if_pos rfl] at h;cases h
theorem numZ_inv{m:Nat}{s:List UInt8}{z:Int}{t:List UInt8}(h:numZ m s=some (z,t)):∃ n:Nat,z=(n:Int)/\s=numB n++t/\n<=m:=by
 unfold numZ at h;cases e:numS m s with
 | none=>rw[e] at h;cases h
 | some x =>
  rw[e] at h;injection h with h;injection h with h1 h2;obtain⟨h3,h4⟩:=numS_inv (show numS m s=some (x.1,t) by rw[e,<- h2]);exact⟨x.1,h1.symm,h3,h4⟩
theorem numW_inv{s:List UInt8}{z:Int}{t:List UInt8}(h:numW s=some (z,t)):∃ n:Nat,z=(n:Int)/\s=numB n++t/\n<=lim40:=numZ_inv (m:=lim40) h
theorem numS_T{s:List UInt8}{n:Nat}{t:List UInt8}(h:numS lim40 s=some (n,t))(ht:∀ c,t.head? = some c->st3 c=true):numT s=some (n,t):=by
 obtain⟨h1,h2⟩:=numS_inv h;rw[h1,numT_num h2 ht]
theorem find_mem:∀ {names:List (List UInt8)} {w:List UInt8},0<=findF names w->w∈names
 | [],w,h=>by unfold findF at h;omega
 | x::l,w,h=>by
  unfold findF at h
  split at h
  ·rename_i e;rw[e];simp
  ·split at h
   ·omega
   ·exact List.mem_cons_of_mem _ (find_mem (by omega))
def LookB(look:List UInt8->Int)(whose:List UInt8->Option (Int×List UInt8)):Prop:=∀ s p t,whose s=some (p,t)->∃ w,s=w++t/\(32:UInt8) ∉ w/\(∀ c∈w,st4 c=false)/\look w=p/\0<=p
def BackN(f g:Nat->List UInt8->Option (List Nd×List UInt8)):Prop:=∀ rm s x,g rm s=some x->(∃ u,s=u++x.2/\(32:UInt8) ∉ u)/\((∀ c,x.2.head? = some c->st3 c=true)->f rm s=some x)
theorem num_sp(n:Nat):(32:UInt8) ∉ numB n:=num_ne (.inl (by decide))
theorem not_app{b:UInt8}{x y:List UInt8}(hx:b ∉ x)(hy:b ∉ y):b ∉ x++y:=fun h=>(Ay.1 h).elim hx hy
theorem not_cons{b c:UInt8}{y:List UInt8}(hx:b≠c)(hy:b ∉ y):b ∉ c::y:=fun h=>(Ba.1 h).elim hx hy
theorem st3_at{b:UInt8}{r:List UInt8}(h:st3 b=true):∀ c,(b::r).head? = some c->st3 c=true:=fun c hc=>by injection hc with hc;rw[<- hc];exact h
theorem win_back{look:List UInt8->Int}{whose:List UInt8->Option (Int×List UInt8)}(hl:LookB look whose){s:List UInt8}{x:List Nd×List UInt8}(h:winS whose s=some x):(∃ u,s=u++x.2/\(32:UInt8) ∉ u)/\((∀ c,x.2.head? = some c->st3 c=true)->winT look s=some x):=by
 unfold winS at h;cases hp:whose s with
 | none=>rw[hp] at h;cases h
 | some p =>
  obtain⟨p,t⟩:=p;rw[hp] at h;dsimp only at h;obtain⟨w,h1,h2,h3,h4,h5⟩:=hl _ _ _ hp;cases ht:takeB 58 t with
  | none=>rw[ht] at h;cases h
  | some r =>
   rw[ht] at h;dsimp only at h;have aA:=takeB_some ht;cases hn:numS lim40 r with
   | none=>rw[hn] at h;cases h
   | some v =>
    rw[hn] at h;injection h with h;subst h;obtain⟨h6,h7⟩:=numS_inv (show numS lim40 r=some (v.1,v.2) from hn);refine⟨⟨w++58::numB v.1,by rw[h1,aA,h6];simp,not_app h2 (not_cons (by decide) (num_sp _))⟩,fun hc=>?_⟩;have ha:=ahead_at st4 (x:=w) (t:=t) h3 (by rw[aA];intro c hc;injection hc with hc;rw[<- hc];rfl);unfold winT;rw[h1,ha.1,ha.2,h4,if_neg (by omega),ht];dsimp only;rw[numS_T hn hc];rfl
theorem kids_back{f g:Nat->List UInt8->Option (List Nd×List UInt8)}(h:BackN f g):∀(k rm:Nat) (s:List UInt8) (y:List Nd×Nat×List UInt8),kidsR g k rm s=some y->(∀ c,s.head? = some c->c=44\/s=y.2.2)/\(∃ u,s=u++y.2.2/\(32:UInt8) ∉ u)/\((∀ c,y.2.2.head? = some c->st3 c=true)->kidsR f k rm s=some y)
 | 0,_,_,_,hy=>by cases hy
 | k+1,rm,s,y,hy=>by
  rw[kidsR_succ] at hy |-
  split at hy
  ·injection hy with hy
   subst hy
   exact⟨fun c hc=>.inr rfl,⟨[],rfl,by simp⟩,fun _=>rfl⟩
  ·rename_i s1 aD
   have hs:=takeB_some aD
   split at hy
   ·cases hy
   ·rename_i x hx
    split at hy
    ·cases hy
    ·rename_i z hz
     injection hy with hy
     subst hy
     obtain⟨⟨u,hu,aC⟩,hf⟩:=h _ _ _ hx
     obtain⟨hh,⟨v,hv,aB⟩,hk⟩:=kids_back h k _ _ _ hz
     refine⟨fun c hc=>.inl (by rw[hs] at hc;injection hc with hc;exact hc.symm),⟨44::(u++v),by rw[hs,hu,hv];simp,not_cons (by decide) (not_app aC aB)⟩,fun hc=>?_⟩
     rw[hf fun c aA=>by
      rcases hh c aA with rfl | e
      ·rfl
      ·exact hc c (by rw[<- e];exact aA)]
     dsimp only
     rw[hk hc]
theorem seq_back{f g:Nat->List UInt8->Option (List Nd×List UInt8)}(h:BackN f g){rm:Nat}{s:List UInt8}{y:List Nd×List UInt8}(hy:seqT g rm s=some y):(∃ u,s=u++y.2/\(32:UInt8) ∉ u)/\seqT f rm s=some y:=by
 unfold seqT at hy |-;split at hy
 ·cases hy
 rename_i s1 aE;have hs:=takeB_some aE;split at hy
 ·cases hy
 rename_i x hx;split at hy
 ·cases hy
 rename_i z hz;cases ht:takeB 41 z.2.2 with
 | none=>rw[ht] at hy;cases hy
 | some r =>
  rw[ht] at hy;injection hy with hy;subst hy;have hr:=takeB_some ht;obtain⟨⟨u,hu,aD⟩,hf⟩:=h _ _ _ hx;obtain⟨hh,⟨v,hv,aC⟩,hk⟩:=kids_back h _ _ _ _ hz;have aB:∀ c,z.2.2.head? = some c->st3 c=true:=by rw[hr];exact st3_at rfl
  refine⟨⟨40::(u++(v++[41])),by rw[hs,hu,hv,hr];simp,not_cons (by decide) (not_app aD (not_app aC (by decide)))⟩,?_⟩;rw[hf fun c aA=>by
   rcases hh c aA with rfl | e
   ·rfl
   exact aB c (by rw[<- e];exact aA)]
  dsimp only;rw[hk aB];dsimp only;rw[ht];rfl
theorem rep_back{f g:Nat->List UInt8->Option (List Nd×List UInt8)}(h:BackN f g){rm:Nat}{s:List UInt8}{y:List Nd×List UInt8}(hy:repS g rm s=some y):(∃ u,s=u++y.2/\(32:UInt8) ∉ u)/\repT f rm s=some y:=by
 unfold repS at hy;unfold repT;cases hn:numS lim40 s with
 | none=>rw[hn] at hy;cases hy
 | some v =>
  rw[hn] at hy;dsimp only at hy;cases aA:takeB 40 v.2 with
  | none=>rw[aA] at hy;cases hy
  | some s2 =>
   rw[aA] at hy;dsimp only at hy;have hs:=takeB_some aA;cases hx:g rm s2 with
   | none=>rw[hx] at hy;cases hy
   | some x =>
    rw[hx] at hy;dsimp only at hy;cases ht:takeB 41 x.2 with
    | none=>rw[ht] at hy;cases hy
    | some r =>
     rw[ht] at hy;injection hy with hy;subst hy;have hr:=takeB_some ht;obtain⟨⟨u,hu,aB⟩,hf⟩:=h _ _ _ hx;obtain⟨h6,h7⟩:=numS_inv (show numS lim40 s=some (v.1,v.2) from hn);refine⟨⟨numB v.1++40::(u++[41]),by rw[h6,hs,hu,hr];simp,not_app (num_sp _) (not_cons (by decide) (not_app aB (by decide)))⟩,?_⟩;rw[numS_T (show numS lim40 s=some (v.1,v.2) from hn) (by rw[hs];exact st3_at rfl)];dsimp only;rw[aA];dsimp only;rw[hf (by rw[hr];exact st3_at rfl)];dsimp only;rw[ht];rfl
theorem node_back{look:List UInt8->Int}{whose:List UInt8->Option (Int×List UInt8)}(hl:LookB look whose):∀ lv,BackN (nodeR look lv) (nodeS whose lv)
 | 0,_,_,_,h=>by cases h
 | lv+1,0,_,_,h=>by cases h
 | lv+1,rm+1,[],_,h=>by cases h
 | lv+1,rm+1,c::s,x,h=>by
  change stepS whose (nodeS whose lv) (rm+1) (c::s)=some x at h
  show _/\(_->stepR look (nodeR look lv) (rm+1) (c::s)=some x)
  rw[stepS_cons] at h
  rw[stepR_cons]
  split at h
  ·rename_i hc
   rw[if_pos hc]
   obtain⟨⟨u,h1,h2⟩,h3⟩:=win_back hl h
   exact⟨⟨c::u,by rw[h1];rfl,not_cons (by rw[hc];decide) h2⟩,h3⟩
  ·rename_i hc
   rw[if_neg hc]
   split at h
   ·rename_i hc
    rw[if_pos hc]
    cases hn:numS lim40 s with
    | none=>rw[hn] at h;cases h
    | some v =>
     rw[hn] at h
     injection h with h
     subst h
     obtain⟨h6,h7⟩:=numS_inv (show numS lim40 s=some (v.1,v.2) from hn)
     refine⟨⟨c::numB v.1,by rw[h6];rfl,not_cons (by rw[hc];decide) (num_sp _)⟩,fun hh=>?_⟩
     rw[numS_T (show numS lim40 s=some (v.1,v.2) from hn) hh]
     rfl
   ·rename_i hc
    rw[if_neg hc]
    split at h
    ·rename_i hc
     rw[if_pos hc]
     obtain⟨⟨u,h1,h2⟩,h3⟩:=seq_back (node_back hl lv) h
     exact⟨⟨c::u,by rw[h1];rfl,not_cons (by rw[hc];decide) h2⟩,fun _=>h3⟩
    ·rename_i hc
     rw[if_neg hc]
     split at h
     ·rename_i hc
      rw[if_pos hc]
      obtain⟨⟨u,h1,h2⟩,h3⟩:=rep_back (node_back hl lv) h
      exact⟨⟨c::u,by rw[h1];rfl,not_cons (by rw[hc];decide) h2⟩,fun _=>h3⟩
     ·cases h
theorem table_back{look:List UInt8->Int}{whose:List UInt8->Option (Int×List UInt8)}(hl:LookB look whose){s:List UInt8}{l:List Nd}(h:tableS whose s=some (l,[])):tableR look s=some l/\(32:UInt8) ∉ s:=by
 unfold tableS at h;obtain⟨⟨u,h1,h2⟩,h3⟩:=node_back hl 16 128 s _ h;have h3:=h3 (by intro c hc;cases hc);rw[Az] at h1;subst h1;refine⟨?_,h2⟩;unfold tableR;rw[h3];exact if_pos rfl
theorem table_same{look:List UInt8->Int}{whose:List UInt8->Option (Int×List UInt8)}(hs:LookS look whose)(hl:LookB look whose)(s:List UInt8):tableR look s=(tableS whose s).bind fun x=>if x.2=[] then some x.1 else none:=by
 cases h:tableR look s with
 | some l=>rw[tableR_S hs h];rfl
 | none =>
  cases h2:tableS whose s with
  | none=>rfl
  | some x =>
   obtain⟨l,t⟩:=x;show none=if t=[] then some l else none;by_cases e:t=[]
   ·subst e;rw[(table_back hl h2).1] at h;cases h
   rw[if_neg e]
theorem ahead_free(b:UInt8)(s:List UInt8):b ∉ aheadT (isB b) s:=fun h=>by
 have:=ahead_all _ s _ h
 simp[isB] at this
theorem known_inv{names:List (List UInt8)}{b:UInt8}{s:List UInt8}{p:Int}{t:List UInt8}(h:knownS names b s=some (p,t)):∃ w,s=w++t/\b ∉ w/\w∈names/\findF names w=p/\0<=p:=by
 unfold knownS at h;split at h
 ·cases h
 rename_i hp;injection h with h;injection h with h1 h2;subst h1;subst h2;exact⟨aheadT (isB b) s,(ahead_behind _ s).symm,ahead_free b s,find_mem (by omega),rfl,by omega⟩
def NamesOk(names:List (List UInt8)):Prop:=∀ s∈names,nameF (bsOf s)=true
theorem NamesOk.ne{names:List (List UInt8)}(h:NamesOk names){s:List UInt8}(hs:s∈names){b:UInt8}(hb:b.toNat < 48\/b.toNat=58):b ∉ s:=by
 have:=name_ne (h s hs) hb;rw[toL_bsOf] at this;exact this
theorem known_back{names:List (List UInt8)}(hn:NamesOk names):LookB (findF names) (knownS names 58):=fun s p t h=>by
 obtain⟨w,h1,h2,h3,h4,h5⟩:=known_inv h
 refine⟨w,h1,hn.ne h3 (.inl (by decide)),fun c hc=>?_,h4,h5⟩
 unfold st4 st3
 rw[Ac fun e=>by subst e;exact hn.ne h3 (.inr rfl) hc,Ac fun e=>by subst e;exact hn.ne h3 (.inl (by decide)) hc,Ac fun e=>by subst e;exact hn.ne h3 (.inl (by decide)) hc,Ac fun e=>by subst e;exact hn.ne h3 (.inl (by decide)) hc]
 rfl
theorem num_back(look:List UInt8->Int)(hk:∀ w,(valF lim40 w).2=true->look w=((valF lim40 w).1:Int)):LookB look numW:=fun s p t h=>by
 obtain⟨n,rfl,h1,h2⟩:=numW_inv h
 refine⟨numB n,h1,num_sp n,fun c hc=>?_,?_,by omega⟩
 ·have h3:=isD_st3 (num_all n c hc)
  have h4:=isD_nat (num_all n c hc)
  unfold st4
  rw[h3,Ac fun e=>by subst e;exact absurd h4.2 (by decide)]
  rfl
 ·have:=valF_num h2
  rw[hk _ (by rw[this]),this]
theorem flag_inv{s:List UInt8}{f:Bool×Bool}{t:List UInt8}(h:flagS s=some (f,t)):s=flagT f.1 f.2++t:=by
 unfold flagS at h;cases h1:takeB 45 s with
 | some r =>
  rw[h1] at h;injection h with h;injection h with h2 h3;subst h2;subst h3;exact takeB_some h1
 | none =>
  rw[h1] at h;dsimp only at h;cases h2:takeB 115 s with
  | some r =>
   rw[h2] at h;dsimp only at h;have e:=takeB_some h2;cases h3:takeB 116 r with
   | some q =>
    rw[h3] at h;injection h with h;injection h with h4 h5;subst h4;subst h5;rw[e,takeB_some h3];rfl
   | none =>
    rw[h3] at h;injection h with h;injection h with h4 h5;subst h4;subst h5;exact e
  | none =>
   rw[h2] at h;dsimp only at h;cases h3:takeB 116 s with
   | none=>rw[h3] at h;cases h
   | some q =>
    rw[h3] at h;injection h with h;injection h with h4 h5;subst h4;subst h5;exact takeB_some h3
theorem flagT_sp(a b:Bool):(32:UInt8) ∉ flagT a b:=by cases a <;> cases b <;> decide
theorem heal_inv:∀(k:Nat) {s:List UInt8} {h:List Int} {t:List UInt8},healS k s=some (h,t)->∃ u,s=u++t/\u.length=k/\(∀ c∈u,dgS c=true)/\h=u.map fun c=>(c.toNat:Int) - 48
 | 0,s,h,t,e=>by
  injection e with e
  injection e with e1 e2
  exact⟨[],by rw[e2];rfl,rfl,(by simp),by rw[<- e1];rfl⟩
 | k+1,[],h,t,e=>by cases e
 | k+1,c::r,h,t,e=>by
  rw[healS_cons] at e
  split at e
  ·rename_i hd
   cases hx:healS k r with
   | none=>rw[hx] at e;cases e
   | some x =>
    rw[hx] at e
    injection e with e
    injection e with e1 e2
    obtain⟨u,u1,u2,u3,u4⟩:=heal_inv k (h:=x.1) (t:=x.2) hx
    refine⟨c::u,by rw[u1,<- e2];rfl,by rw[Ad,u2],?_,by rw[<- e1,u4];rfl⟩
    intro d aA
    rcases Ba.1 aA with rfl | h2
    ·exact hd
    ·exact u3 d h2
  ·cases e
theorem heal_back{s:List UInt8}{h:List Int}{t:List UInt8}(e:healS 5 s=some (h,t)):∃ u q,s=u++t/\(32:UInt8) ∉ u/\healP u=some q/\h=[q.1,q.2.1,q.2.2.1,q.2.2.2.1,q.2.2.2.2]:=by
 obtain⟨u,u1,u2,u3,u4⟩:=heal_inv 5 e
 match u,u2,u3,u4,u1 with
 | [a,b,c,d,g],_,u3,u4,u1 =>
  refine⟨[a,b,c,d,g],(_,_,_,_,_),u1,fun hm=>absurd (u3 _ hm) (by decide),?_,u4⟩;have ha:decide (48<=a.toNat/\a.toNat<=50)=true:=u3 a (by simp);have hb:decide (48<=b.toNat/\b.toNat<=50)=true:=u3 b (by simp);have hc:decide (48<=c.toNat/\c.toNat<=50)=true:=u3 c (by simp);have hd:decide (48<=d.toNat/\d.toNat<=50)=true:=u3 d (by simp);have hg:decide (48<=g.toNat/\g.toNat<=50)=true:=u3 g (by simp);unfold healP;dsimp only;rw[ha,hb,hc,hd,hg];exact if_pos rfl
theorem proc_inv{s:List UInt8}{q:Int×Int}{t:List UInt8}(h:procS s=some (q,t)):∃ u,s=u++t/\(32:UInt8) ∉ u/\(44:UInt8) ∉ u/\procP u=some q:=by
 unfold procS at h;cases he:numW s with
 | none=>rw[he] at h;cases h
 | some e =>
  obtain⟨e,r⟩:=e;rw[he,As] at h;dsimp only at h;cases hr:takeB 58 r with
  | none=>rw[hr] at h;cases h
  | some r2 =>
   rw[hr,As] at h;cases hq:numW r2 with
   | none=>rw[hq] at h;cases h
   | some x =>
    obtain⟨x,r3⟩:=x;rw[hq,As] at h;injection h with h;injection h with h1 h2;subst h1;subst h2;obtain⟨n,rfl,n1,n2⟩:=numW_inv he;obtain⟨m,rfl,m1,m2⟩:=numW_inv hq;refine⟨numB n++58::numB m,by rw[n1,takeB_some hr,m1];simp,not_app (num_sp _) (not_cons (by decide) (num_sp _)),not_app (num_ne (.inl (by decide))) (not_cons (by decide) (num_ne (.inl (by decide)))),?_⟩;have e:splitF 58 (numB n++58::numB m)=[numB n,numB m]:=by
     rw[split_at _ (num_ne (b:=58) (.inr (by decide))),split_one (num_ne (b:=58) (.inr (by decide)))]
    unfold procP;rw[e];dsimp only;rw[valF_num n2,valF_num m2];rfl
theorem procs_inv:∀(k:Nat) {s:List UInt8} {L:List (Int×Int)} {t:List UInt8},procsS k s=some (L,t)->∃ W,W≠[]/\s=joinB 44 W++t/\(∀ w∈W,(44:UInt8) ∉ w)/\(∀ w∈W,(32:UInt8) ∉ w)/\procsP W=some L
 | 0,s,L,t,h=>by cases h
 | k+1,s,L,t,h=>by
  rw[procsS_succ] at h
  cases hx:procS s with
  | none=>rw[hx] at h;cases h
  | some x =>
   rw[hx] at h
   dsimp only at h
   obtain⟨u,u1,u2,u3,u4⟩:=proc_inv (q:=x.1) (t:=x.2) hx
   cases hr:takeB 44 x.2 with
   | none =>
    rw[hr] at h
    injection h with h
    injection h with h1 h2
    refine⟨[u],by simp,by rw[<- h2];exact u1,(by simpa using u3),(by simpa using u2),?_⟩
    rw[<- h1]
    unfold procsP
    rw[u4]
    rfl
   | some r =>
    rw[hr] at h
    dsimp only at h
    cases hy:procsS k r with
    | none=>rw[hy] at h;cases h
    | some y =>
     rw[hy] at h
     injection h with h
     injection h with h1 h2
     obtain⟨W,w0,w1,w2,w3,w4⟩:=procs_inv k (L:=y.1) (t:=y.2) hy
     refine⟨u::W,by simp,?_,?_,?_,?_⟩
     ·rw[u1,takeB_some hr,w1,join_cons 44 u w0,<- h2]
      simp
     ·intro w hw
      rcases Ba.1 hw with rfl | hw
      ·exact u3
      ·exact w2 w hw
     ·intro w hw
      rcases Ba.1 hw with rfl | hw
      ·exact u2
      ·exact w3 w hw
     ·rw[<- h1]
      unfold procsP
      rw[u4]
      dsimp only
      rw[w4]
      rfl
theorem procsA_back{s:List UInt8}{L:List (Int×Int)}(h:procsA s=some (L,[])):(32:UInt8) ∉ s/\procsP (splitF 44 s)=some L:=by
 obtain⟨W,w0,w1,w2,w3,w4⟩:=procs_inv _ h;rw[Az] at w1;subst w1;rw[split_join w0 w2];exact⟨Gz (by decide) w3,w4⟩
theorem part_back{s:List UInt8}{y:Pq}(h:partS s=some (y,[])):∃ w1 w2 w3 w4 w5 w6,s=32::joinB 32 [w1,w2,w3,w4,w5,w6]/\(∀ w∈[w1,w2,w3,w4,w5,w6],(32:UInt8) ∉ w)/\∀ w0,partP [w0,w1,w2,w3,w4,w5,w6]=some y:=by
 unfold partS at h;obtain⟨s1,t1,h⟩:=Aw.1 h;obtain⟨nm,t2,h⟩:=Aw.1 h;obtain⟨s3,t3,h⟩:=Aw.1 h;obtain⟨⟨b,s4⟩,t4,h⟩:=Aw.1 h;obtain⟨s5,t5,h⟩:=Aw.1 h;obtain⟨⟨p,s6⟩,t6,h⟩:=Aw.1 h;obtain⟨s7,t7,h⟩:=Aw.1 h;obtain⟨⟨f,s8⟩,t8,h⟩:=Aw.1 h;obtain⟨s9,t9,h⟩:=Aw.1 h;obtain⟨⟨q,aI⟩,aD,h⟩:=Aw.1 h;obtain⟨aB,aA,h⟩:=Aw.1 h;obtain⟨⟨L,aH⟩,aC,h⟩:=Aw.1 h;injection h with h;injection h with h1 h2;dsimp only at h1 h2 t3 t5 t7 t9 aA;subst h2;unfold nameS at t2;split at t2
 ·rename_i hn;injection t2 with t2;obtain⟨nb,rfl,b1,b2⟩:=numW_inv t4;obtain⟨np,rfl,p1,p2⟩:=numW_inv t6;have f1:=flag_inv t8;obtain⟨u,hq,u1,u2,u3,u4⟩:=heal_back aD;obtain⟨l1,l2⟩:=procsA_back aC;have aE:s1=aheadT (isB 32) s1++nm.2:=by rw[<- t2];exact(ahead_behind _ _).symm
  have aG:=ahead_free 32 s1;have aF:nm.1=aheadT (isB 32) s1:=by rw[<- t2]
  refine⟨aheadT (isB 32) s1,numB nb,numB np,flagT f.1 f.2,u,aB,?_,?_,fun w0=>?_⟩
  ·rw[takeB_some t1];show 32::s1=32::(aheadT (isB 32) s1++32::(numB nb++32::(numB np++32::(flagT f.1 f.2++32::(u++32::aB)))));rw[<- takeB_some aA,<- u1,<- takeB_some t9,<- f1,<- takeB_some t7,<- p1,<- takeB_some t5,<- b1,<- takeB_some t3,<- aE]
  ·intro w hw;simp only[Ba,Co,or_false] at hw;rcases hw with rfl | rfl | rfl | rfl | rfl | rfl
   ·exact aG
   ·exact num_sp _
   ·exact num_sp _
   ·exact flagT_sp _ _
   ·exact u2
   exact l1
  unfold partP;dsimp only;rw[valF_num b2,valF_num p2,hn,Qh,u3,l2];refine(if_pos rfl).trans ?_;dsimp only;rw[<- h1,aF,u4];rfl
 cases t2
theorem chan_back{names:List (List UInt8)}{s:List UInt8}{y:ChV}(h:chanS names s=some (y,[])):∃ w1 w2 w3 w4 w5,s=32::joinB 32 [w1,w2,w3,w4,w5]/\(∀ w∈[w1,w2,w3,w4,w5],(32:UInt8) ∉ w)/\∀ w0,chanP names [w0,w1,w2,w3,w4,w5]=some y:=by
 unfold chanS at h;obtain⟨s1,t1,h⟩:=Aw.1 h;obtain⟨⟨a,s2⟩,t2,h⟩:=Aw.1 h;obtain⟨s3,t3,h⟩:=Aw.1 h;obtain⟨⟨b,s4⟩,t4,h⟩:=Aw.1 h;obtain⟨s5,t5,h⟩:=Aw.1 h;obtain⟨⟨⟨k,cp⟩,s6⟩,t6,h⟩:=Aw.1 h;obtain⟨s7,t7,h⟩:=Aw.1 h;obtain⟨⟨m,s8⟩,t8,h⟩:=Aw.1 h;obtain⟨s9,t9,h⟩:=Aw.1 h;obtain⟨⟨l,aD⟩,aC,h⟩:=Aw.1 h;injection h with h;injection h with h1 h2;dsimp only at h1 h2 t3 t5 t7 t9;subst h2;obtain⟨w1,a1,a2,a3,a4,a5⟩:=known_inv t2;obtain⟨w2,b1,b2,b3,b4,b5⟩:=known_inv t4;obtain⟨nm,rfl,m1,m2⟩:=numZ_inv t8;obtain⟨nl,rfl,l1,l2⟩:=numW_inv aC;rw[Az] at l1;have hk:∃ w3 c r,w3=c::r/\s5=w3++s6/\(32:UInt8) ∉ w3/\(if c=113 then (if (valF lim40 r).2 then some (⟨a,b,true,((valF lim40 r).1:Int),(nm:Int),(nl:Int)⟩:ChV) else none)
  else if c=115/\r=[] then some ⟨a,b,false,0,(nm:Int),(nl:Int)⟩ else none)=some ⟨a,b,k,cp,(nm:Int),(nl:Int)⟩:=by
  unfold kindS at t6;cases h3:takeB 113 s5 with
  | some r =>
   rw[h3] at t6;dsimp only at t6;cases h4:numW r with
   | none=>rw[h4] at t6;cases t6
   | some x =>
    rw[h4] at t6;injection t6 with t6;injection t6 with t6 t7;injection t6 with aB aA;obtain⟨nc,e1,c1,c2⟩:=numW_inv (show numW r=some (x.1,x.2) from h4);refine⟨113::numB nc,113,numB nc,rfl,by rw[takeB_some h3,c1,t7];rfl,not_cons (by decide) (num_sp _),?_⟩;rw[if_pos rfl,valF_num c2];refine(if_pos rfl).trans ?_;rw[<- aB,<- aA,e1]
  | none =>
   rw[h3] at t6;dsimp only at t6;cases h4:takeB 115 s5 with
   | none=>rw[h4] at t6;cases t6
   | some r =>
    rw[h4] at t6;injection t6 with t6;injection t6 with t6 t7;injection t6 with aB aA;refine⟨[115],115,[],rfl,by rw[takeB_some h4,t7];rfl,by decide,?_⟩;rw[if_neg (by decide),if_pos ⟨rfl,rfl⟩,<- aB,<- aA]
 obtain⟨w3,c,r,e3,k1,k2,k3⟩:=hk;refine⟨w1,w2,w3,numB nm,s9,?_,?_,fun w0=>?_⟩
 ·rw[takeB_some t1];show 32::s1=32::(w1++32::(w2++32::(w3++32::(numB nm++32::s9))));rw[<- takeB_some t9,<- m1,<- takeB_some t7,<- k1,<- takeB_some t5,<- b1,<- takeB_some t3,<- a1]
 ·intro w hw;simp only[Ba,Co,or_false] at hw;rcases hw with rfl | rfl | rfl | rfl | rfl
  ·exact a2
  ·exact b2
  ·exact k2
  ·exact num_sp _
  rw[l1];exact num_sp _
 subst e3;unfold chanP;dsimp only;rw[a4,b4,valF_num m2,l1,valF_num l2,Ae a5,Ae b5];refine(if_pos rfl).trans ?_;dsimp only;rw[k3,<- h1]
theorem tab_back{names:List (List UInt8)}(hn:NamesOk names){s:List UInt8}{y:NdT}(h:tabS names s=some (y,[])):∃ w1,s=32::w1/\(32:UInt8) ∉ w1/\∀ w0,tabP names [w0,w1]=some y:=by
 unfold tabS at h;obtain⟨s1,t1,h⟩:=Aw.1 h;obtain⟨⟨l,s2⟩,t2,h⟩:=Aw.1 h;injection h with h;injection h with h1 h2;dsimp only at h1 h2;subst h2;obtain⟨h3,h4⟩:=table_back (known_back hn) t2;refine⟨s1,takeB_some t1,h4,fun w0=>?_⟩;unfold tabP;dsimp only;rw[h3,<- h1];rfl
theorem lineD_back{c c':Cft}(hn:NamesOk (namesP c.P)){s:List UInt8}(hs:skipB s=false)(h:lineD c s=some c'):wordsP c (splitF 32 s)=some c':=by
 have h0:¬ (s=[]\/s.head? = some 35):=by
  unfold skipB at hs;simpa using hs
 have hL:lineS c s=some (c',[]):=by
  unfold lineD at h;split at h
  ·cases h
  rename_i x hx;split at h
  ·rename_i he;injection h with h;rw[hx,<- h,<- he]
  cases h
 unfold lineS at hL;rw[if_neg h0] at hL;have e:=ahead_behind (isB 32) s;have aC:=ahead_free 32 s;generalize aheadT (isB 32) s=w0 at hL e aC;generalize behindT (isB 32) s=b at hL e;have aA:∀ W,(∀ w∈W,(32:UInt8) ∉ w)->W≠[]->b=32::joinB 32 W->splitF 32 s=w0::W:=fun W hW h1 h2=>by
  rw[<- e,h2,<- join_cons 32 w0 h1];refine split_join (by simp) fun x hx=>?_;rcases Ba.1 hx with rfl | hx
  ·exact aC
  exact hW x hx
 unfold wordsP;split at hL
 ·rename_i hw;cases hp:partS b with
  | none=>rw[hp] at hL;cases hL
  | some x =>
   obtain⟨y,t⟩:=x;rw[hp] at hL;injection hL with hL;injection hL with h1 h2;have ht:t=[]:=h2;subst ht;obtain⟨w1,w2,w3,w4,w5,w6,q1,q2,q3⟩:=part_back hp;rw[aA _ q2 (by simp) q1,if_pos (by rw[hw];rfl),q3,<- h1];rfl
 rename_i aB;split at hL
 ·rename_i hw;cases hp:chanS (namesP c.P) b with
  | none=>rw[hp] at hL;cases hL
  | some x =>
   obtain⟨y,t⟩:=x;rw[hp] at hL;injection hL with hL;injection hL with h1 h2;have ht:t=[]:=h2;subst ht;obtain⟨w1,w2,w3,w4,w5,q1,q2,q3⟩:=chan_back hp;rw[aA _ q2 (by simp) q1,List.head?_cons,if_neg (fun e=>aB (C7 e)),if_pos (by rw[hw]),q3,<- h1];rfl
 rename_i aD;split at hL
 ·rename_i hw;cases hp:tabS (namesP c.P) b with
  | none=>rw[hp] at hL;cases hL
  | some x =>
   obtain⟨y,t⟩:=x;rw[hp] at hL;injection hL with hL;injection hL with h1 h2;have ht:t=[]:=h2;subst ht;obtain⟨w1,q1,q2,q3⟩:=tab_back hn hp;rw[aA [w1] (by simpa using q2) (by simp) q1,List.head?_cons,if_neg (fun e=>aB (C7 e)),if_neg (fun e=>aD (C7 e)),if_pos (by rw[hw]),q3,<- h1];rfl
 cases hL
theorem words_names{c c':Cft}{W:List (List UInt8)}(hn:NamesOk (namesP c.P))(h:wordsP c W=some c'):NamesOk (namesP c'.P):=by
 unfold wordsP at h;split at h
 ·cases hp:partP W with
  | none=>rw[hp] at h;cases h
  | some y =>
   rw[hp] at h;injection h with h;subst h;have hy:nameF (bsOf (toL y.1.name))=true:=by
    unfold partP at hp;split at hp
    ·split at hp
     ·rename_i hv;simp only[Au] at hv;split at hp
      ·injection hp with hp;subst hp;exact hv.2.2
      cases hp
     cases hp
    cases hp
   intro s hs;have hs:s∈namesP (c.P++[y]):=hs;unfold namesP at hs;rw[De] at hs;rcases Ay.1 hs with hs | hs
   ·exact hn s hs
   have:s=toL y.1.name:=by simpa using hs
   rw[this];exact hy
 split at h
 ·cases hp:chanP (namesP c.P) W with
  | none=>rw[hp] at h;cases h
  | some y=>rw[hp] at h;injection h with h;subst h;exact hn
 split at h
 ·cases hp:tabP (namesP c.P) W with
  | none=>rw[hp] at h;cases h
  | some y=>rw[hp] at h;injection h with h;subst h;exact hn
 cases h
theorem linesQ_same:∀(l:List (List UInt8)) (i:Nat) (c:Cft),NamesOk (namesP c.P)->linesQ i c l=linesP i c l
 | [],_,_,_=>rfl
 | x::l,i,c,hn=>by
  rw[linesQ_cons]
  unfold linesP
  cases hs:skipB x with
  | true =>
   rw[lineD_skip hs,if_pos rfl]
   exact linesQ_same l (i+1) c hn
  | false =>
   rw[if_neg (by decide)]
   cases hw:wordsP c (splitF 32 x) with
   | some c' =>
    rw[lineD_at hs hw]
    exact linesQ_same l (i+1) c' (words_names hn hw)
   | none =>
    cases hd:lineD c x with
    | none=>rfl
    | some c'=>rw[lineD_back hn hs hd] at hw;cases hw
theorem parse_same(s:List UInt8):parseQ s=parseP s:=by
 unfold parseQ parseP;rw[linesQ_same _ _ _ (by intro x hx;cases hx)];rfl
end Txt
def dgH(c:UInt8):Bool:=decide (48<=c.toNat/\c.toNat<=50)
theorem Qda(w:List UInt8):flagP w=if (decide (w=[45]) || ((decide (w=[115]) || decide (w=[115,116])) || (decide (w=[116]) || decide (w=[115,116]))))=true then
  some (decide (w=[115]) || decide (w=[115,116]),decide (w=[116]) || decide (w=[115,116])) else none:=by
 unfold flagP;by_cases h1:w=[45]
 ·subst h1;rfl
 by_cases h2:w=[115]
 ·subst h2;rfl
 by_cases h3:w=[116]
 ·subst h3;rfl
 by_cases h4:w=[115,116]
 ·subst h4;rfl
 rw[if_neg h1,if_neg h2,if_neg h3,if_neg h4,Ac h1,Ac h2,Ac h3,Ac h4];rfl
theorem dd{l:List UInt8}{h:Nat->Int}(hl:l.length=5)(hd:∀ j,j < 5->∀ c,l[j]? = some c->dgH c=true/\h j=(c.toNat:Int) - 48):healP l=some (h 0,h 1,h 2,h 3,h 4):=by
 match l,hl with
 | [a,b,c,d,e],_ =>
  obtain⟨a1,a2⟩:=hd 0 (by omega) a rfl;obtain⟨b1,b2⟩:=hd 1 (by omega) b rfl;obtain⟨c1,c2⟩:=hd 2 (by omega) c rfl;obtain⟨d1,d2⟩:=hd 3 (by omega) d rfl;obtain⟨e1,e2⟩:=hd 4 (by omega) e rfl;unfold dgH at a1 b1 c1 d1 e1;unfold healP;dsimp only;rw[a1,b1,c1,d1,e1];refine(if_pos rfl).trans ?_;rw[a2,b2,c2,d2,e2]
theorem Wv{l:List UInt8}{j:Nat}{c:UInt8}(hc:l[j]? = some c)(h:dgH c=false):healP l=none:=by
 unfold healP;split
 ·rename_i a b c' d e;rw[if_neg];intro aA;simp only[Au] at aA;obtain⟨⟨a1,b1⟩,c1,d1,e1⟩:=aA;have hj:=(Af.1 hc).1;simp only[Ad,Bh] at hj;unfold dgH at h;rcases(by omega:j=0\/j=1\/j=2\/j=3\/j=4) with rfl | rfl | rfl | rfl | rfl <;> (injection hc with hc;subst hc;simp_all)
 rfl
theorem de{l:List UInt8}(h:l.length≠5):healP l=none:=by
 unfold healP;split
 ·exact absurd rfl h
 rfl
theorem Z5{W:List (List UInt8)}(h:W.length=7):∃ a b c d e f g,W=[a,b,c,d,e,f,g]:=by
 match W,h with
 | [a,b,c,d,e,f,g],_=>exact⟨a,b,c,d,e,f,g,rfl⟩
theorem Sj{W:List (List UInt8)}(h:W.length≠7):partP W=none:=by
 unfold partP;split
 ·exact absurd rfl h
 rfl
theorem bj{w0 w1 w2 w3 w4 w5 w6:List UInt8}{sc st:Bool}{h:Int×Int×Int×Int×Int}{L:List (Int×Int)}(h1:((valF lim40 w2).2 && ((valF lim40 w3).2 && nameF (bsOf w1)))=true)(hf:flagP w4=some (sc,st))(hh:healP w5=some h)(hL:procsP (splitF 44 w6)=some L):
  partP [w0,w1,w2,w3,w4,w5,w6]=some (⟨bsOf w1,((valF lim40 w2).1:Int),((valF lim40 w3).1:Int),sc,st,none,L.length,L.length,h.1,h.2.1,h.2.2.1,h.2.2.2.1,h.2.2.2.2⟩,L):=by
 unfold partP;dsimp only;rw[if_pos h1,hf,hh,hL]
theorem Jx{w0 w1 w2 w3 w4 w5 w6:List UInt8}(h:((valF lim40 w2).2 && ((valF lim40 w3).2 && nameF (bsOf w1)))=false\/flagP w4=none\/healP w5=none\/procsP (splitF 44 w6)=none):partP [w0,w1,w2,w3,w4,w5,w6]=none:=by
 unfold partP;dsimp only;rcases h with h | h | h | h
 ·rw[h,if_neg (by decide)]
 ·rw[h];split <;> rfl
 ·rw[h];split
  ·cases flagP w4 <;> rfl
  rfl
 rw[h];split
 ·cases flagP w4 <;> cases healP w5 <;> rfl
 rfl
theorem ay{x:List UInt8}{a b:List UInt8}(h:splitF 58 x=[a,b]):procP x=if ((valF lim40 a).2 && (valF lim40 b).2)=true then some (((valF lim40 a).1:Int),((valF lim40 b).1:Int)) else none:=by
 unfold procP;rw[h]
theorem az{x:List UInt8}(h:(splitF 58 x).length≠2):procP x=none:=by
 unfold procP;split
 ·rename_i e;rw[e] at h;exact absurd rfl h
 rfl
theorem Kn:∀ {l:List (List UInt8)} {x:List UInt8},x∈l->procP x=none->procsP l=none
 | [],_,h,_=>by simp at h
 | y::l,x,h,hx=>by
  unfold procsP
  rcases Ba.1 h with rfl | h
  ·rw[hx]
  ·cases procP y with
   | none=>rfl
   | some q=>rw[Kn h hx];rfl
theorem Nz:∀ {l:List (List UInt8)} {L:List (Int×Int)} {x:List UInt8} {q:Int×Int},procsP l=some L->procP x=some q->procsP (l++[x])=some (L++[q])
 | [],L,x,q,h,hx=>by
  injection h with h
  subst h
  show procsP [x]=some [q]
  unfold procsP
  rw[hx]
  rfl
 | y::l,L,x,q,h,hx=>by
  unfold procsP at h
  cases hy:procP y with
  | none=>rw[hy] at h;cases h
  | some p =>
   rw[hy] at h
   cases hl:procsP l with
   | none=>rw[hl] at h;cases h
   | some M =>
    rw[hl] at h
    injection h with h
    subst h
    rw[Bo]
    unfold procsP
    rw[hy,Nz hl hx]
    rfl
theorem Qbn{B g:Nat}{w:World}{l:List Value}(h:OwnV 60 11 w B (some ⟨g,0,none⟩) 1 1 l)(v0 v1 v2 v3 v4 v5 v6 v7 v8 v9 aA:Value):
  OwnV 60 11 ((((((((((((w).setCell ⟨g,0,none⟩ (v0)).setCell ⟨g,1,none⟩ (v1)).setCell ⟨g,2,none⟩ (v2)).setCell ⟨g,3,none⟩ (v3)).setCell ⟨g,4,none⟩ (v4)).setCell ⟨g,5,none⟩ (v5)).setCell ⟨g,6,none⟩ (v6)).setCell ⟨g,7,none⟩ (v7)).setCell ⟨g,8,none⟩ (v8)).setCell ⟨g,9,none⟩ (v9)).setCell ⟨g,10,none⟩ (aA)) B (some ⟨g,0,none⟩) 1 1 [v0,v1,v2,v3,v4,v5,v6,v7,v8,v9,aA]:=by
 have hl:l.length=11:=h.1
 match l,hl with
 | [a,b,c,d,e,f,g,i,j,k,m],_=>exact(((((((((((h).set 0 v0 (by show 0 < 11;omega)).set 1 v1 (by show 1 < 11;omega)).set 2 v2 (by show 2 < 11;omega)).set 3 v3 (by show 3 < 11;omega)).set 4 v4 (by show 4 < 11;omega)).set 5 v5 (by show 5 < 11;omega)).set 6 v6 (by show 6 < 11;omega)).set 7 v7 (by show 7 < 11;omega)).set 8 v8 (by show 8 < 11;omega)).set 9 v9 (by show 9 < 11;omega)).set 10 aA (by show 10 < 11;omega)
theorem Qbp{B g:Nat}{w0 w:World}(h:Below B w0 w)(hg:B<=g)(v0 v1 v2 v3 v4 v5 v6 v7 v8 v9 aA:Value):Below B w0 ((((((((((((w).setCell ⟨g,0,none⟩ (v0)).setCell ⟨g,1,none⟩ (v1)).setCell ⟨g,2,none⟩ (v2)).setCell ⟨g,3,none⟩ (v3)).setCell ⟨g,4,none⟩ (v4)).setCell ⟨g,5,none⟩ (v5)).setCell ⟨g,6,none⟩ (v6)).setCell ⟨g,7,none⟩ (v7)).setCell ⟨g,8,none⟩ (v8)).setCell ⟨g,9,none⟩ (v9)).setCell ⟨g,10,none⟩ (aA)) :=
 (((((((((((h).setCell (p:=⟨g,0,none⟩) hg _).setCell (p:=⟨g,1,none⟩) hg _).setCell (p:=⟨g,2,none⟩) hg _).setCell (p:=⟨g,3,none⟩) hg _).setCell (p:=⟨g,4,none⟩) hg _).setCell (p:=⟨g,5,none⟩) hg _).setCell (p:=⟨g,6,none⟩) hg _).setCell (p:=⟨g,7,none⟩) hg _).setCell (p:=⟨g,8,none⟩) hg _).setCell (p:=⟨g,9,none⟩) hg _).setCell (p:=⟨g,10,none⟩) hg _
theorem Rb{w:World}{g:Nat}{v0 v1 v2 v3 v4 v5 v6 v7 v8 v9 aA:Value}(hc:∀ k v,[v0,v1,v2,v3,v4,v5,v6,v7,v8,v9,aA][k]? = some v->w.cell? ⟨g,k,none⟩=some v):(loadVar 60 ⟨g,0,none⟩).run Tryz.prog w=.ok (.agg #[v0,v1,v2,v3,v4,v5,v6,v7,v8,v9,aA]) w:=by
 have e:(isAgg 60).run Tryz.prog w=.ok true w:=by go_simp
 have e2:(sizeOf 60).run Tryz.prog w=.ok 11 w:=by go_simp
 unfold loadVar;rw[Sem.run_bind,e,At];simp only[if_true];rw[Sem.run_bind,e2,At,Sem.run_bind];have:=run_loadCells_list (P:=Tryz.prog) (w:=w) ⟨g,0,none⟩ [v0,v1,v2,v3,v4,v5,v6,v7,v8,v9,aA] (fun j v hj=>by
  rw[Jh];exact hc j v hj)
 simp only[Ad,Bh] at this;rw[this,At];rfl
theorem Il{fn:Func}{p q:Tmp}(h:fn.results=#[.cell p 60,.tmp q]){aA:Array Value}{w:World}{B g:Nat}{v0 v1 v2 v3 v4 v5 v6 v7 v8 v9 aB:Value}(hp:aA.getD p undef=.pointer (some ⟨g,0,none⟩))(ho:OwnV 60 11 w B (some ⟨g,0,none⟩) 1 1 [v0,v1,v2,v3,v4,v5,v6,v7,v8,v9,aB]):
  (results fn aA).run Tryz.prog w=.ok (.tuple #[.agg #[v0,v1,v2,v3,v4,v5,v6,v7,v8,v9,aB],aA.getD q undef]) w:=by
 have e:(asAddr (.pointer (some ⟨g,0,none⟩))).run Tryz.prog w=.ok ⟨g,0,none⟩ w:=rfl;have hl:(loadVar 60 ⟨g,0,none⟩).run Tryz.prog w=.ok (.agg #[v0,v1,v2,v3,v4,v5,v6,v7,v8,v9,aB]) w:=Rb fun k v hk=>by
  have aC:=(Af.1 hk).1;have h1:=Ah ho k aC;have h2:=(Af.1 hk).2
  first | exact h1.trans (congrArg some h2) | (rw[h1];simp[<- h2])
 rw[results_cell_tmp h,hp,e,At,hl,At]
def Qbh(W:List (List UInt8))(w:World)(e:Ending)(w':World):Prop:=Below w.heap.size w w'/\∃(x:PtV) (L:List (Int×Int)),e=.returned (.tuple #[pv x,.bool (partP W).isSome])/\OwnV 62 2 w' w.heap.size x.pa x.pn x.pc (L.flatMap prc)/\
 ∀ y,partP W=some y->y.2=L/\y.1=⟨x.name,x.bud,x.per,x.sched,x.stop,none,L.length,L.length,x.h0,x.h1,x.h2,x.h3,x.h4⟩
