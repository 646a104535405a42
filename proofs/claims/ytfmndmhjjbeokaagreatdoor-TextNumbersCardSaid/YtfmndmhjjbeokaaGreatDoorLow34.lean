import Derived.Test.YtfmndmhjjbeokaaGreatDoorLow33
import Derived.Test.YtfmndmhjjbeokaaGreatDoorLow32
set_option maxHeartbeats 8000000
set_option maxRecDepth 100000
set_option linter.unusedSimpArgs false
set_option linter.unusedVariables false
namespace Go.Proofs.YtfmndmhjjbeokaaGreatDoor
open Go.RowKit Tab Txt
theorem J7{α:Type}(f:α->List UInt8)(k:Nat)(L:List α)(h:∀ x∈L,(f x).length<=k)(l0:List UInt8):
  ∃ F:Nat->List UInt8,F 0=l0/\(∀ i x,L[i]? = some x->F (i+1)=F i++f x)/\F L.length=l0++L.flatMap f/\∀ i,i<=L.length->(F i).length<=l0.length+i*k:=by
 refine⟨fun i=>l0++(L.take i).flatMap f,by simp,fun i x hx=>?_,by simp,fun i hi=>?_⟩
 ·show l0++(L.take (i+1)).flatMap f=(l0++(L.take i).flatMap f)++f x;rw[List.take_add_one,hx,Option.toList_some,Bu,Ar];simp
 have aA:∀(M:List α),(∀ x∈M,(f x).length<=k)->(M.flatMap f).length<=M.length*k:=by
  intro M;induction M with
  | nil=>intro _;simp
  | cons x M ih =>
   intro hM;have h1:=hM x (by simp);have h2:=ih fun y hy=>hM y (by simp[hy]);rw[Cu,Aa,Ad,Db];omega
 have:=aA (L.take i) fun x hx=>h x (List.mem_of_mem_take hx);rw[Cl,Nat.min_eq_left hi] at this;show (l0++(L.take i).flatMap f).length<=_;rw[Aa];omega
theorem Md{y:Pq}(h:Ie y):∀ k,(Gs y.1 k).length<=k*5
 | 0=>by simp[Gs]
 | k+1=>by
  have h1:=Md h k
  have h2:=h.hl k
  have h3:=num_few (n:=(hv5 y.1 k).toNat) (by omega)
  rw[It,Aa]
  omega
theorem In:∀(l:List (Int×Int)) (b:Bool),(∀ q∈l,Fm q=true)->(Ep b l).length<=l.length*12
 | [],b,_=>by simp[Ep]
 | q::l,b,h=>by
  have h1:=In l false fun y hy=>h y (by simp[hy])
  have h2:=h q (by simp)
  unfold Fm at h2
  simp only[Au,Av] at h2
  have h3:=num_few (n:=q.1.toNat) (by omega)
  have h4:=num_few (n:=q.2.toNat) (by omega)
  show ((if b=true then 32 else 44)::(procT q++Ep false l)).length<=(l.length+1)*12
  unfold procT
  simp only[Ad,Aa]
  omega
theorem Hy{y:Pq}(h:Ie y)(hl:y.2.length=y.1.pn):(I0 y).length<=100:=by
 have aA:y.2≠[]:=fun e=>by rw[e] at hl;have:=h.few.1;simp at hl;omega
 have h1:=Md h 5;have h2:=In y.2 true h.pr;have h3:=Lh h.name;have h4:=num_few (n:=y.1.bud.toNat) (by have:=h.bud;omega);have h5:=num_few (n:=y.1.per.toNat) (by have:=h.per;omega);have h6:=Qi y.1.sched y.1.stop;have h7:=h.few.2;rw[Sk y aA];simp only[Aa,Ad,Bh,show wPart.length=4 from rfl];omega
structure Kc(n:Nat)(x:ChV):Prop where
 fr:0<=x.from_/\x.from_ < n
 tt:0<=x.to_/\x.to_ < n
 cap:0<=x.cap/\x.cap<=8
 max:0<=x.max/\x.max<=4294967295
 late:0<=x.late/\x.late<=4096
 q:x.queue=false->x.cap=0
theorem Kc.of{C:List ChV}{n k:Nat}{x:ChV}(hx:C[k]? = some x)(h:chE C n k=0)(hm:0<=x.max/\x.max<=4294967295):Kc n x:=by
 unfold chE at h;rw[hx] at h;have h:(if Hi x (n:Int)=true then (0:Int) else 17)=0:=h;split at h
 ·rename_i h1;unfold Hi at h1;simp only[Au,Dh,Av] at h1;obtain⟨⟨a1,a2,a3,a4,a5,a6,a7⟩,b⟩:=h1;refine⟨⟨a1,a2⟩,⟨a3,a4⟩,?_,hm,⟨a6,a7⟩,fun e=>?_⟩
  ·rcases b with ⟨_,b⟩ | ⟨_,b⟩ <;> omega
  rcases b with ⟨b,_⟩ | ⟨_,b⟩
  ·rw[e] at b;cases b
  exact b
 cases h
theorem Ib{names:List (List UInt8)}(hn:∀ s∈names,s.length<=64){n:Nat}{x:ChV}(h:Kc n x):(I5 names x).length<=170:=by
 have h1:=Ip hn x.from_;have h2:=Ip hn x.to_;have h3:=num_few (n:=x.cap.toNat) (by have:=h.cap;omega);have h4:(numB x.max.toNat).length<=10:=num_len_le 9 _ (by have:=h.max;omega);have h5:=num_few (n:=x.late.toNat) (by have:=h.late;omega);have h6:(if x.queue then 113::numB x.cap.toNat else [115]).length<=6:=by
  split
  ·rw[Ad];omega
  show 1<=6;omega
 rw[Om];simp only[Aa,Ad,Bh,show wChan.length=4 from rfl];omega
def Pc(names:List (List UInt8))(f:F):List UInt8:=joinB 32 (tabW names f)++[10]
theorem M5(names:List (List UInt8))(f:F):Pc names f=((wTable++[32])++txX (nmP names) f false)++[10]:=by
 unfold Pc tabW;simp[joinB]
theorem Ky(nm:Int->List UInt8)(x:Nd)(k:F):txX nm (.cons x k .nil) false=txN nm x (txX nm k false):=by
 show []++(txN nm x (txX nm k false)++[])=_;simp
theorem I9(P:List Pq)(C:List ChV)(T:List F):textT (linesT P C T)=(P.flatMap I0++C.flatMap (I5 (namesP P)))++T.flatMap (Pc (namesP P)):=by
 unfold textT linesT;rw[Bu,Bu,List.flatMap_map,List.flatMap_map,List.flatMap_map,Ar];rfl
theorem Nf{n:Nat}(h:n<=4294967295):IntKind.i64.wrap (n:Int)=(n:Int):=by
 simp only[IntKind.wrap,IntKind.bits,IntKind.signed];simp;omega
structure TsW(k:Nat)(W0:World)(v3:Value)(live:Nat->Bool)(a:Act)(w:World):Prop where
 on:Below W0.heap.size W0 w
 t3:live k=false->a.eval (.tmp 3)=v3
theorem TsW.upd{k:Nat}{W0:World}{v3:Value}{live:Nat->Bool}{a:Act}{w w':World}(h:TsW k W0 v3 live a w)(hb:Below w.heap.size w w')(i:Nat)(d:Tmp)(v:Value)(hi:i≠k:=by decide)(hd:d≠3:=by decide):TsW k W0 v3 (Rgs.upd live i) (a.put (some d) v) w':=by
 have e:Rgs.upd live i k=live k:=by unfold Rgs.upd;simp[Ne.symm hi]
 exact⟨h.on.trans (hb.mono h.on.size),fun e2=>by rw[Reg.eval_other _ _ _ _ hd];exact h.t3 (e▸e2)⟩
theorem TsW.up{k:Nat}{W0:World}{v3:Value}{live:Nat->Bool}{a:Act}{w:World}(h:TsW k W0 v3 live a w){i:Nat}{d:Tmp}{v:Value}(hi:i≠k:=by decide)(hd:d≠3:=by decide):TsW k W0 v3 (Rgs.upd live i) (a.put (some d) v) w:=h.upd (Aj _ _) i d v hi hd
theorem Ek(n:Nat)(hn:n < 9223372036854775808)(w:World):Calls Tryz.prog 23 #[.int .i64 (n:Int)] w (Ans (.string (bsOf (numB n))) w) :=
 (Gp n hn w).mono fun e w' ⟨h1,h2⟩=>⟨h1,h2▸Aj _ _⟩
theorem Qcu(x:Cf)(Fs:List F)(w:World)(hx:CfR w x)(hr:RiX x)(hs:SmX 16 x)(fO:Fs.length=x.n3)(hF:∀(i:Nat) (t:NdT) (f:F),x.T[i]? = some t->Fs[i]? = some f->∃ y k,f=.cons y k .nil/\f.ok/\t.l=y::k.flat)(hm:∀ y∈x.C,0<=y.max/\y.max<=4294967295)(gR:∀ t∈x.T,∀ z∈t.l,z.k=1->z.p < x.n1)
  (iB:∀ V,Below w.heap.size w V->Calls Tryz.prog 27 #[cfv x] V (Ans (.int .i64 0) V)):Calls Tryz.prog 9 #[cfv x] w (Ans (.string (bsOf (textT (linesT x.P x.C Fs)))) w):=by
 have dD:=hid hx.pp;have gG:=hid hx.ch;have fV:=hid hx.tb;have bX:∀(k:Nat) (y:Pq),x.P[k]? = some y->Ie y/\RdB prc w w.heap.size y.1.pa y.1.pn y.2:=fun k y hy=>⟨Ie.of hy (hr.pt k (Af.1 hy).1),(hx.pt y (An hy)).1.procs⟩;have l1:=hx.pp.len;have l2:=hx.ch.len;have l3:=hx.tb.len;have z1:x.n1<=6:=by rw[<- l1];exact hr.sz.2.1
 have z2:x.n2<=8:=by rw[<- l2];exact hr.sz.2.2.1
 have z3:x.n3<=3:=by rw[<- l3];exact hr.sz.2.2.2.2
 have fJ:∀(k:Nat) (y:ChV),x.C[k]? = some y->Kc x.n1 y:=fun k y hy=>by
  have:=hr.ch k (Af.1 hy).1;rw[l1] at this;exact Kc.of hy this (hm y (An hy))
 have eG:∀ s∈namesP x.P,s.length<=64:=fun s jD=>by
  obtain⟨y,hy,rfl⟩:=By.1 jD;obtain⟨k,hk⟩:=Bl hy;have:=Lh (bX k y hk).1.name;omega
 have eX:∀ y∈x.T,RdN w w.heap.size y.A y.n y.l/\y.n<=y.c/\y.n<=1040:=fun y hy=>⟨(hx.tt y hy).rd,(hx.tt y hy).cap,by have:=hs.nd y hy;omega⟩;obtain⟨PF,p0,ps,pe,pb⟩:=J7 I0 100 x.P (fun y hy=>by obtain⟨k,hk⟩:=Bl hy;exact Hy (bX k y hk).1 (hx.pt y hy).1.procs.len) [];rw[l1] at pe pb;obtain⟨CF,c0,cs,ce,cb⟩:=J7 (I5 (namesP x.P)) 170 x.C (fun y hy=>by obtain⟨k,hk⟩:=Bl hy;exact Ib eG (fJ k y hk)) (PF x.n1);rw[l2] at ce cb;have eF:∀ f∈Fs,(Pc (namesP x.P) f).length<=104010:=fun f hf=>by
  obtain⟨i,hi⟩:=Bl hf;have gW:=(Af.1 hi).1;obtain⟨t,ht⟩:∃ t,x.T[i]? = some t:=⟨_,Am (by omega)⟩;obtain⟨y,k,rfl,fA,eF⟩:=hF i t f ht hi;have eW:=eX t (An ht);have e:(F.cons y k .nil).flat=t.l:=by rw[eF];show y::(k.flat++[])=_;rw[Az]
  have h1:=I8 (Ip eG) (F.cons y k .nil) (fun z hz=>(eW.1.bd z (by rw[<- e];exact hz)).2.2) false;have h2:(F.cons y k .nil).sz=t.n:=by rw[<- F.flat_length,e];exact eW.1.len
  have h3:=eW.2.2;rw[h2] at h1;rw[M5];simp only[Aa,Ad,Bh,show wTable.length=5 from rfl];omega
 obtain⟨TF,t0,ts,te,tb⟩:=J7 (Pc (namesP x.P)) 104010 Fs eF (CF x.n2);rw[fO] at te tb;have dS:TF x.n3=textT (linesT x.P x.C Fs):=by rw[te,ce,pe,I9,Cw]
 have eP:∀ i,i<=x.n1->(PF i).length<=600:=fun i hi=>by have:=pb i hi;simp at this;omega
 have fQ:∀ i,i<=x.n2->(CF i).length<=2000:=fun i hi=>by have h1:=cb i hi;have h2:=eP x.n1 (Ag _);omega
 have gL:∀ i,i<=x.n3->(TF i).length<=400000:=fun i hi=>by have h1:=tb i hi;have h2:=fQ x.n2 (Ag _);omega
 have fZ:=hid bX;have gF:=hid fJ;have fU:=hid eX;have eL:=hid eG;have gB:=hid p0;have fX:=hid ps;have gA:=hid eP;have gI:=hid c0;have gE:=hid cs;have gH:=hid fQ;have iR:=hid t0;have fT:=hid ts;have bZ:=hid gL;have dF:=hid dS;have gD:=hid hF;have iT:=hid fO;have fY:=hid gR;have fW:=hid iB;have dE:=hid (And.intro l1 (And.intro l2 l3));generalize textT (linesT x.P x.C Fs)=RES at dF |-;clear bX fJ eX eG p0 ps pe pb c0 cs ce cb t0 ts te tb dS eP fQ gL l1 l2 l3 hx hr hs fO hF hm gR iB eF;obtain⟨A1,A2,A3,n1,n2,n3,c1,c2,c3,P,C,T⟩:=x;dsimp only[cfv] at dD gG fV fZ gF fU eL gB fX gA gI gE gH iR fT bZ dF gD iT fY fW dE z1 z2 z3 |-;have dI:=bl1 w (.cells #[.slice A1 n1 c1,.slice A2 n2 c2,.slice A3 n3 c3] 31);have cZ:=G9 w (.slice A1 n1 c1) (.slice A2 n2 c2) (.slice A3 n3 c3) 31;go_in;go_upto_region 1 with fail;generalize w.alloc (.cells #[.slice A1 n1 c1,.slice A2 n2 c2,.slice A3 n3 c3] 31)=W0 at dI cZ |-;have eB:=hid fun V (hv:Below W0.heap.size W0 V)=>(cZ.on hv).three;have kW:=hid dI;have HW:=hid fun V (hv:Below W0.heap.size W0 V)=>dI.trans (hv.mono dI.size);obtain⟨g0,gY⟩:∃ g,g=w.heap.size:=⟨_,rfl⟩;rw[<- gY] at eB |-;have kO:=hid (fW.o W0 dI);clear gY cZ dI fW;obtain⟨m0,m1,m2⟩:=eB.o _ (Aj _ _);go_wp2_with fail;refine kO.o.mono ?_;rintro e w1⟨rfl,hU⟩;have gJ:=hid hU;clear hU m0 m1 m2;obtain⟨m0,m1,m2⟩:=eB.o _ gJ.o;go_wp2;clear m0 m1 m2;go_loopw [3,4,6,8,9,10,11,23] (fun q r _ _ _ _ _ s wr=>∃(i:Nat) (A:Option Addr) (c:Nat),i<=n1/\s=.int .i64 i/\q=.string (bsOf (PF i))/\r=.slice A i c/\OwnV 9 1 wr W0.heap.size A i c ((namesP (P.take i)).flatMap sc)/\Below W0.heap.size W0 wr) (fun _ _ _ _ _ _ _ s _=>n1 - (intOf s).toNat)
 case atStart=>exact⟨0,none,0,by omega,rfl,by rw[gB.o];rfl,rfl,OwnV.nil _ _ _ _,gJ.o⟩
 obtain⟨i,A,c,hi,rfl,rfl,rfl,ho,hb⟩:=hrel;have HO:=hid ho;clear ho gB;by_cases gW:i < n1
 ·obtain⟨ad,x,rfl,fN,hx,d0,ck⟩:=(dD.o.on (HW.o _ hb)).at_ Fv (by omega) gW;have bX:=fZ.o i x hx;have gQ:=fX.o i x hx;have gT:=gA.o i hi;have eZ:namesP (P.take (i+1))=namesP (P.take i)++[toL x.1.name]:=by
   unfold namesP;rw[List.take_add_one,hx];simp
  have d0:=d0 _ rfl;have d1:=ck 1 _ (by omega) rfl;have d2:=ck 2 _ (by omega) rfl;have d3:=ck 3 _ (by omega) rfl;have d4:=ck 4 _ (by omega) rfl;have d5:=ck 5 _ (by omega) rfl;have d6:=ck 6 _ (by omega) rfl;have d7:=ck 7 _ (by omega) rfl;have d8:=ck 8 _ (by omega) rfl;have d9:=ck 9 _ (by omega) rfl;have dB:=ck 10 _ (by omega) rfl;have PR:=hid bX.2;have PX:Hd (PF (i+1)=PF i++I0 x):=hid gQ;have PI:=hid bX.1;have eK:=hid bX.2.len;clear bX gQ;obtain⟨⟨nm,bz,pz,aM,st,pa,pn,pc,y0,y1,y2,y3,y4⟩,L⟩:=x;dsimp only at d0 d1 d2 d3 d4 d5 d6 d7 d8 d9 dB PI PR PX eK eZ;obtain⟨bu,hJ⟩:=Ax PI.o.bud.1;obtain⟨pe,gU⟩:=Ax PI.o.per.1;dsimp only at hJ gU;subst hJ;subst gU;have kP:=hid eZ;have kM:=hid gT;have NM:=hid (Lh PI.o.name);have BU:Hd (bu<=4096/\pe<=4096/\1<=pn/\pn<=3):=hid (by have h1:=PI.o.bud;have h2:=PI.o.per;have h3:=PI.o.few;dsimp only at h1 h2 h3;omega);have bM:=bl1 wr (.cells #[.string nm,.int .i64 (bu:Int),.int .i64 (pe:Int),.bool aM,.bool st,.slice pa pn pc,.int .i64 y0,.int .i64 y1,.int .i64 y2,.int .i64 y3,.int .i64 y4] 60);have aE:=hb.trans (bM.mono hb.size);have dQ:obk A≠some wr.heap.size:=fun e=>by have:=(HO.o.obk_ge e).2;omega
  have fB:=HO.o.below rfl bM;have f:∀ o v,(#[Value.string nm,.int .i64 (bu:Int),.int .i64 (pe:Int),.bool aM,.bool st,.slice pa pn pc,.int .i64 y0,.int .i64 y1,.int .i64 y2,.int .i64 y3,.int .i64 y4]:Array Value)[o]? = some v->(wr.alloc (.cells #[.string nm,.int .i64 (bu:Int),.int .i64 (pe:Int),.bool aM,.bool st,.slice pa pn pc,.int .i64 y0,.int .i64 y1,.int .i64 y2,.int .i64 y3,.int .i64 y4] 60)).cell? ⟨wr.heap.size,o,none⟩=some v:=fun o v hv=>(Ab _ _ _ _ _).trans hv;have dR:wr.heap.size < (wr.alloc (.cells #[.string nm,.int .i64 (bu:Int),.int .i64 (pe:Int),.bool aM,.bool st,.slice pa pn pc,.int .i64 y0,.int .i64 y1,.int .i64 y2,.int .i64 y3,.int .i64 y4] 60)).heap.size:=by simp
  clear ck fN hx bM HO eZ gT;go_upto_region 8 with fail;generalize wr.alloc (.cells #[.string nm,.int .i64 (bu:Int),.int .i64 (pe:Int),.bool aM,.bool st,.slice pa pn pc,.int .i64 y0,.int .i64 y1,.int .i64 y2,.int .i64 y3,.int .i64 y4] 60)=w5 at aE fB f dR |-;generalize wr.heap.size=gx at f dR dQ |-;have f0:=f 0 _ rfl;have dH:=bl1 w5 (.cells #[.string nm] 9);have dP:=fB.below rfl dH;have gP:=rdV_new w5 #[.string nm] 9 ([toL nm].flatMap sc) rfl;have dN:W0.heap.size<=(w5.alloc (.cells #[.string nm] 9)).heap.size:=Ai aE.size dH.size;have iU:=hid (aE.trans (dH.mono aE.size));have FB:=hid fun o v (hv:_=some v)=>(dH.cell (p:=⟨gx,o,none⟩) dR).trans (f o v hv);have gK:=hid (Bc dR dH.size);clear f dH fB aE dR d0 d1 d2 d3 d4 d5 d6 d7 d8 d9 dB hb;go_upto_region 9 with (at_builtin;go_loud (refine Ea elS rfl (.tmp 27) (.tmp 30) rfl rfl W0.heap.size A i c _ rfl dP _ 1 1 _ _ rfl gP rfl Cv (Qz _) (by omega) (by unfold maxLen;omega) dN (i+1) rfl ((namesP (P.take (i+1))).flatMap sc) (by rw[kP.o,Bu]) ?_;intro A6 c6 w6 gO fL gX));have iS:=hid gO;have eO:=hid (iU.o.trans fL);have HF:=hid fun V (hv:Below w6.heap.size w6 V) o v hq=>(hv.cell (p:=⟨gx,o,none⟩) (Bc gK.o fL.size)).trans ((Bf (gX.gb.block gx gK.o dQ.symm)).trans (FB.o o v hq));clear gO fL gX dQ dP gP dN iU FB gK f0;obtain⟨u1,aR,aZ,aD⟩:=addT (a:=PF i) (b:=[112,97,114,116,32]) (x:=(bsOf (PF i))) (y:=⟨#[112,97,114,116,32]⟩) rfl rfl 600 5 605 kM.o (by show 5<=5;omega) rfl (by decide);obtain⟨u2,aQ,aY,aC⟩:=addT (a:=u1) (b:=toL nm) (x:=(bsOf u1)) (y:=nm) rfl rfl 605 12 617 aZ NM.o rfl (by decide);obtain⟨u3,bB,aX,aB⟩:=addT (a:=u2) (b:=[32]) (x:=(bsOf u2)) (y:=⟨#[32]⟩) rfl rfl 617 1 618 aY (by show 1<=1;omega) rfl (by decide);obtain⟨u4,bA,aV,aA⟩:=addT (a:=u3) (b:=numB bu) (x:=(bsOf u3)) (y:=(bsOf (numB bu))) rfl rfl 618 5 623 aX (num_few (by have:=BU.o;omega)) rfl (by decide);obtain⟨u5,cK,cF,aJ⟩:=addT (a:=u4) (b:=[32]) (x:=(bsOf u4)) (y:=⟨#[32]⟩) rfl rfl 623 1 624 aV (by show 1<=1;omega) rfl (by decide);obtain⟨u6,cJ,cE,aI⟩:=addT (a:=u5) (b:=numB pe) (x:=(bsOf u5)) (y:=(bsOf (numB pe))) rfl rfl 624 5 629 cF (num_few (by have:=BU.o;omega)) rfl (by decide);obtain⟨u7,cI,cD,aH⟩:=addT (a:=u6) (b:=[32]) (x:=(bsOf u6)) (y:=⟨#[32]⟩) rfl rfl 629 1 630 cE (by show 1<=1;omega) rfl (by decide);obtain⟨u8,cH,cC,aG⟩:=addT (a:=u7) (b:=flagT aM st) (x:=(bsOf u7)) (y:=(bsOf (flagT aM st))) rfl rfl 630 2 632 cD (Qi _ _) rfl (by decide);obtain⟨u9,cG,cA,aF⟩:=addT (a:=u8) (b:=[32]) (x:=(bsOf u8)) (y:=⟨#[32]⟩) rfl rfl 632 1 633 cC (by show 1<=1;omega) rfl (by decide);have bF:=hid aR;have bE:=hid aQ;have bD:=hid bB;have bC:=hid bA;have cU:=hid cK;have cR:=hid cJ;have cQ:=hid cI;have cP:=hid cH;have cO:=hid cG;have bT:=hid cA;clear aR aZ aQ aY bB aX bA aV cK cF cJ cE cI cD cH cC cG cA;refine Rgs.region (by kernel_rfl) (by kernel_rfl) (fun(bW:Nat) (vl:Value) (_:World)=>match bW with | 0=>vl=.string (bsOf (PF i)) | 1=>vl=.string (bsOf (u1)) | 2=>vl=.pointer (some ⟨gx,0,none⟩) | 3=>vl=.string nm | 4=>vl=.string (bsOf (u2)) | 5=>vl=.string (bsOf (u3)) | 6=>vl=.pointer (some ⟨gx,1,none⟩) | 7=>vl=.int .i64 (bu:Int) | 8=>vl=.string (bsOf (numB bu)) | 9=>vl=.string (bsOf (u4)) | 10=>vl=.string (bsOf (u5)) | 11=>vl=.pointer (some ⟨gx,2,none⟩) | 12=>vl=.int .i64 (pe:Int) | 13=>vl=.string (bsOf (numB pe)) | 14=>vl=.string (bsOf (u6)) | 15=>vl=.string (bsOf (u7)) | 16=>vl=(pv ⟨nm,(bu:Int),(pe:Int),aM,st,pa,pn,pc,y0,y1,y2,y3,y4⟩) | 17=>vl=.string (bsOf (flagT aM st)) | 18=>vl=.string (bsOf (u8)) | 19=>vl=.string (bsOf (u9)) | 20=>vl=.string (bsOf (u9)) | _=>True) (TsW 20 w6 (.string (bsOf (PF i)))) ⟨(Aj _ _).drew,fun _=>rfl⟩ (Rgs.steps_of ?_) ?_
  ·refine⟨?_,?_,?_,?_,?_,?_,?_,?_,?_,?_,?_,?_,?_,?_,?_,?_,?_,?_,?_,?_,?_,trivial⟩<;>intro a w1 live S E D C h0 hk hW
   ·have iY:=D3 C h0 [1,4,5,9,10,14,15,18,19] 20 rfl;have e3:a.eval (.tmp 3)=.string (bsOf (PF i)):=hW.t3 iY;exact Dw hW.up
   ·have d0:_=_:=rgsDe D 0;exact Dw hW.up
   ·have e6:a.eval _=.pointer (some ⟨gx,0,none⟩):=E 6 rfl;exact Dw hW.up
   ·have d2:_=_:=rgsDe D 2;have aN:=HF.o w1 hW.on 0 _ rfl;have jT:=HF.o w1 hW.on 1 _ rfl;have jS:=HF.o w1 hW.on 2 _ rfl;have jR:=HF.o w1 hW.on 3 _ rfl;have jQ:=HF.o w1 hW.on 4 _ rfl;have jP:=HF.o w1 hW.on 5 _ rfl;have jO:=HF.o w1 hW.on 6 _ rfl;have jN:=HF.o w1 hW.on 7 _ rfl;have jM:=HF.o w1 hW.on 8 _ rfl;have jL:=HF.o w1 hW.on 9 _ rfl;have fK:=HF.o w1 hW.on 10 _ rfl;exact Dw hW.up
   ·have d1:_=_:=rgsDe D 1;have d3:_=_:=rgsDe D 3;exact Dw hW.up
   ·have d4:_=_:=rgsDe D 4;exact Dw hW.up
   ·have e6:a.eval _=.pointer (some ⟨gx,0,none⟩):=E 6 rfl;exact Dw hW.up
   ·have d6:_=_:=rgsDe D 6;have aN:=HF.o w1 hW.on 1 _ rfl;exact Dw hW.up
   ·have d7:_=_:=rgsDe D 7;refine Ei 23 #[.int .i64 (bu:Int)] ?_;refine(Ek bu (by have:=BU.o;omega) w1).mono ?_;rintro e w5⟨rfl,aE⟩;exact⟨_,rfl,rfl,(hW.upd aE 8 40 _),fun jq vq _ hq=>hq⟩
   ·have d5:_=_:=rgsDe D 5;have d8:_=_:=rgsDe D 8;exact Dw hW.up
   ·have d9:_=_:=rgsDe D 9;exact Dw hW.up
   ·have e6:a.eval _=.pointer (some ⟨gx,0,none⟩):=E 6 rfl;exact Dw hW.up
   ·have eJ:_=_:=rgsDe D 11;have aN:=HF.o w1 hW.on 2 _ rfl;exact Dw hW.up
   ·have d12:_=_:=rgsDe D 12;refine Ei 23 #[.int .i64 (pe:Int)] ?_;refine(Ek pe (by have:=BU.o;omega) w1).mono ?_;rintro e w5⟨rfl,aE⟩;exact⟨_,rfl,rfl,(hW.upd aE 13 45 _),fun jq vq _ hq=>hq⟩
   ·have dB:_=_:=rgsDe D 10;have d13:_=_:=rgsDe D 13;exact Dw hW.up
   ·have iJ:_=_:=rgsDe D 14;exact Dw hW.up
   ·have e6:a.eval _=.pointer (some ⟨gx,0,none⟩):=E 6 rfl;have aN:=HF.o w1 hW.on 0 _ rfl;have jT:=HF.o w1 hW.on 1 _ rfl;have jS:=HF.o w1 hW.on 2 _ rfl;have jR:=HF.o w1 hW.on 3 _ rfl;have jQ:=HF.o w1 hW.on 4 _ rfl;have jP:=HF.o w1 hW.on 5 _ rfl;have jO:=HF.o w1 hW.on 6 _ rfl;have jN:=HF.o w1 hW.on 7 _ rfl;have jM:=HF.o w1 hW.on 8 _ rfl;have jL:=HF.o w1 hW.on 9 _ rfl;have fK:=HF.o w1 hW.on 10 _ rfl;exact Dw hW.up
   ·have iH:_=_:=rgsDe D 16;refine Ei 28 #[(pv ⟨nm,(bu:Int),(pe:Int),aM,st,pa,pn,pc,y0,y1,y2,y3,y4⟩)] ?_;refine(Up ⟨nm,(bu:Int),(pe:Int),aM,st,pa,pn,pc,y0,y1,y2,y3,y4⟩ w1).mono ?_;rintro e w5⟨rfl,aE⟩;exact⟨_,rfl,rfl,(hW.upd aE 17 49 _),fun jq vq _ hq=>hq⟩
   ·have iI:_=_:=rgsDe D 15;have iG:_=_:=rgsDe D 17;exact Dw hW.up
   ·have iF:_=_:=rgsDe D 18;exact Dw hW.up
   have iE:_=_:=rgsDe D 19;exact Dw ⟨hW.on,fun e=>absurd e (by rw[Rgs.upd_self];decide)⟩
  intro a w4 live hs hd E D Hl hW;have e3:a.eval (.tmp 3)=.string (bsOf (u9)):=by
   obtain⟨v,hv,he⟩:=D 20 _ rfl;exact(he 3 rfl).trans hv
  rw[Rgs.act_ws a _ _ hs hd E [32,33,34,35,36,37,38,39,40,41,42,43,44,45,46,47,48,49,50,51,3] (by kernel_rfl)];simp only[List.foldl,Bg,Bv,Bp,e3];have dC:=hid hW.on;clear E D Hl hW e3;generalize a.eval=ρ;clear a hs hd;clear aD aC aB aA aJ aI aH aG aF;have fS:Hd (PF (i+1)=u9++Gs ⟨nm,(bu:Int),(pe:Int),aM,st,pa,pn,pc,y0,y1,y2,y3,y4⟩ 5++Ep true L++[10]):=hid (by
   have dQ:L≠[]:=fun e=>by have h1:=eK.o;rw[e] at h1;have h2:=BU.o;simp at h1;omega
   rw[PX.o,Sk _ dQ,cO.o,cP.o,cQ.o,cR.o,cU.o,bC.o,bD.o,bE.o,bF.o];simp[wPart])
  clear bF bE bD bC cU cR cQ cP cO PX;have hz:∀ k:Nat,k < 5->∀ W,(Instr.index 58 (.agg #[Value.int .i64 y0,.int .i64 y1,.int .i64 y2,.int .i64 y3,.int .i64 y4]) (.int .i64 (k:Int))).run Tryz.prog W=.ok (.int .i64 (hv5 ⟨nm,(bu:Int),(pe:Int),aM,st,pa,pn,pc,y0,y1,y2,y3,y4⟩ k)) W:=fun k hk=>by
   rcases(by omega:k=0\/k=1\/k=2\/k=3\/k=4) with rfl | rfl | rfl | rfl | rfl <;> exact fun W=>by simp[Instr.index,go_sem,hv5]
  have HZ:=hid hz;have eM:Hd (∀ k,0<=hv5 ⟨nm,(bu:Int),(pe:Int),aM,st,pa,pn,pc,y0,y1,y2,y3,y4⟩ k/\hv5 ⟨nm,(bu:Int),(pe:Int),aM,st,pa,pn,pc,y0,y1,y2,y3,y4⟩ k<=2):=hid PI.o.hl;have dY:=hid fun k=>It ⟨nm,(bu:Int),(pe:Int),aM,st,pa,pn,pc,y0,y1,y2,y3,y4⟩ k;have dZ:Hd (∀ k,k<=5->(Gs ⟨nm,(bu:Int),(pe:Int),aM,st,pa,pn,pc,y0,y1,y2,y3,y4⟩ k).length<=25):=hid fun k hk=>by
   have h1:=Md PI.o k
   (try dsimp only at h1);omega
  have eN:Hd (Gs ⟨nm,(bu:Int),(pe:Int),aM,st,pa,pn,pc,y0,y1,y2,y3,y4⟩ 0=[]):=hid rfl;generalize Gs ⟨nm,(bu:Int),(pe:Int),aM,st,pa,pn,pc,y0,y1,y2,y3,y4⟩=GF at dY dZ eN fS;generalize hv5 ⟨nm,(bu:Int),(pe:Int),aM,st,pa,pn,pc,y0,y1,y2,y3,y4⟩=hf at HZ eM dY;clear hz;have f6:=HF.o w4 dC.o 6 _ rfl;have f7:=HF.o w4 dC.o 7 _ rfl;have f8:=HF.o w4 dC.o 8 _ rfl;have f9:=HF.o w4 dC.o 9 _ rfl;have jX:=HF.o w4 dC.o 10 _ rfl;go_wp2;clear f6 f7 f8 f9 jX;go_loopw [3,8,54] (fun q _ s wx=>∃(k:Nat),k<=5/\s=.int .i64 k/\q=.string (bsOf (u9++GF k))/\Below w6.heap.size w6 wx) (fun _ _ s _=>5 - (intOf s).toNat)
  case atStart=>exact⟨0,by omega,rfl,by rw[eN.o,Az],dC.o⟩
  obtain⟨k,hk,rfl,rfl,hb⟩:=hrel;clear dC;by_cases jK:k < 5
  ·have hz:=HZ.o k jK;have fI:=dY.o k;have eH:=eM.o k;have GB:=hid (dZ.o k hk);clear HZ dY eM dZ eN;generalize hf k=z at hz fI eH;obtain⟨zn,iZ⟩:=Ax eH.1;subst iZ;have jA:(numB zn).length<=5:=num_few (by omega);have dV:∀ W,(Op.stringOp .add (bsOf (u9++GF k)) (bsOf (numB zn))).run Tryz.prog W=.ok (.string (bsOf (u9++GF (k+1)))) W:=by
    rw[fI,Bx,<- Ar];exact sadd (u9++GF k) (numB zn) (by have h1:=bT.o;have h2:=GB.o;rw[Aa];omega)
   have fG:(k:Int) < 5:=by omega
   have HB:=hid hb;have kN:=hid eH;clear fI GB jA hb eH;go_wp2_with fail;refine(Ek zn (by have:=kN.o;omega) wr).mono ?_;rintro e w9⟨rfl,dT⟩;have eD:=hid (HB.o.trans (dT.mono HB.o.size));clear dT hz HB;go_wp2;go_roundw
   case rel=>exact⟨k+1,by omega,by go_num,rfl,eD.o⟩
   simp[intOf];omega
  have fG:¬ (k:Int) < 5:=by omega
  obtain rfl:k=5:=by omega
  have GB:=dZ.o 5 (by omega);obtain⟨LF,eI⟩:∃ l,l=u9++GF 5:=⟨_,rfl⟩;have iX:LF.length<=700:=by have h1:=bT.o;rw[eI,Aa];omega
  have iN:Hd (PF (i+1)=(LF++Ep true L)++[10]):=hid (by rw[fS.o,eI]);have QP:Hd (∀(j:Nat) (q:Int×Int),L[j]? = some q->LF++Ep true (L.take (j+1))=(LF++Ep true (L.take j))++((if j=0 then 32 else 44)::procT q)):=hid fun j q hq=>by
   rw[List.take_add_one,hq,Option.toList_some,Ms,Ar];have e:(true=true/\L.take j=[])↔j=0:=by
    constructor
    ·intro h;have h2:=congrArg List.length h.2;rw[Cl,Bh] at h2;have:=(Af.1 hq).1;omega
    rintro rfl;exact⟨rfl,rfl⟩
   rw[show (if true=true/\L.take j=[] then (32:UInt8) else 44)=(if j=0 then 32 else 44) from by
    by_cases hj:j=0
    ·rw[if_pos (e.2 hj),if_pos hj]
    rw[if_neg (fun h=>hj (e.1 h)),if_neg hj]]
  have iL:Hd (∀ j,(LF++Ep true (L.take j)).length<=800):=hid fun j=>by
   have h1:=In (L.take j) true fun q hq=>PI.o.pr q (List.mem_of_mem_take hq);have h2:(L.take j).length<=pn:=by rw[Cl,eK.o];omega
   have h3:=BU.o;rw[Aa];omega
  have Q0:Hd (LF++Ep true (L.take 0)=LF):=hid (Az _);have QE:Hd (LF++Ep true (L.take pn)=LF++Ep true L):=hid (by rw[Bd (by have:=eK.o;(try dsimp only at this);omega)]);rw[<- eI];generalize iC:(fun j=>LF++Ep true (L.take j))=QF;have hq:∀ j,LF++Ep true (L.take j)=QF j:=fun j=>congrFun iC j;have QS:Hd (∀(j:Nat) (q:Int×Int),L[j]? = some q->QF (j+1)=QF j++((if j=0 then 32 else 44)::procT q)):=hid fun j q h=>by rw[<- hq,<- hq];exact QP.o j q h
  have fR:Hd (∀ j,(QF j).length<=800):=hid fun j=>by rw[<- hq];exact iL.o j
  have iM:Hd (QF 0=LF):=hid (by rw[<- hq];exact Q0.o);have iK:Hd (PF (i+1)=QF pn++[10]):=hid (by rw[iN.o,<- QE.o,hq]);have iO:=hid (PR.o.on (HW.o _ eO.o));have jE:pn<=3:=BU.o.2.2.2;have f5:=HF.o wr hb 5 _ rfl;have HB:=hid hb;clear iC hq QP iL Q0 QE iN fS eI iX GB HZ dY eM dZ eN hb PR;go_wp2;clear f5;go_loopw [3,9,10,11,65] (fun q _ _ _ s wx=>∃(j:Nat),j<=pn/\s=.int .i64 j/\q=.string (bsOf (QF j))/\Below w6.heap.size w6 wx) (fun _ _ _ _ s _=>pn - (intOf s).toNat)
  case atStart=>exact⟨0,by omega,rfl,by rw[iM.o],HB.o⟩
  obtain⟨j,hj,rfl,rfl,hb⟩:=hrel;clear HB;by_cases jJ:j < pn
  ·obtain⟨ap,q,rfl,jU,hq,e0,ek⟩:=(iO.o.on hb).at_ F5 (by omega) jJ;have e0:=e0 _ rfl;have e1:=ek 1 _ (by omega) rfl;have qi:=PI.o.pr q (An hq);have QB:=hid (fR.o j);have qs:=QS.o j q hq;obtain⟨iW,iV⟩:=q;dsimp only at e0 e1 qi qs;unfold Fm at qi;simp only[Au,Av] at qi;obtain⟨qe,h1⟩:=Ax (show 0<=iW by omega);obtain⟨qp,h2⟩:=Ax (show 0<=iV by omega);subst h1;subst h2;have QI:Hd (qe < 100000/\qp < 100000):=hid (by omega);have bM:=bl1 wr (.cells #[.int .i64 (qe:Int),.int .i64 (qp:Int)] 62);have cY:=hb.trans (bM.mono hb.size);have f:∀ o v,(#[Value.int .i64 (qe:Int),.int .i64 (qp:Int)]:Array Value)[o]? = some v->(wr.alloc (.cells #[.int .i64 (qe:Int),.int .i64 (qp:Int)] 62)).cell? ⟨wr.heap.size,o,none⟩=some v:=fun o v hv=>(Ab _ _ _ _ _).trans hv;have bY:wr.heap.size < (wr.alloc (.cells #[.int .i64 (qe:Int),.int .i64 (qp:Int)] 62)).heap.size:=by simp
   clear ek jU hq bM qi hb;go_upto_region 18 with fail;generalize wr.alloc (.cells #[.int .i64 (qe:Int),.int .i64 (qp:Int)] 62)=w8 at cY f bY |-;generalize wr.heap.size=gy at f bY |-;have bH:=hid cY
   have aU:=hid fun V (hv:Below w8.heap.size w8 V) o v hq=>(hv.cell (p:=⟨gy,o,none⟩) bY).trans (f o v hq);clear cY bY f e0 e1;by_cases fH:j=0
   ·have i1:¬ (0:Int) < (j:Int):=by omega
    have QX:Hd (QF (j+1)=QF j++(32::procT ((qe:Int),(qp:Int)))):=hid (by rw[qs,if_pos fH]);clear qs fH;go_upto_region 21 with fail;obtain⟨u1,aR,aZ,aD⟩:=addT (a:=QF j) (b:=[32]) (x:=(bsOf (QF j))) (y:=⟨#[32]⟩) rfl rfl 800 1 801 QB.o (by show 1<=1;omega) rfl (by decide);obtain⟨u2,aQ,aY,aC⟩:=addT (a:=u1) (b:=numB qe) (x:=(bsOf u1)) (y:=(bsOf (numB qe))) rfl rfl 801 5 806 aZ (num_few (by have:=QI.o;omega)) rfl (by decide);obtain⟨u3,bB,aX,aB⟩:=addT (a:=u2) (b:=[58]) (x:=(bsOf u2)) (y:=⟨#[58]⟩) rfl rfl 806 1 807 aY (by show 1<=1;omega) rfl (by decide);obtain⟨u4,bA,aV,aA⟩:=addT (a:=u3) (b:=numB qp) (x:=(bsOf u3)) (y:=(bsOf (numB qp))) rfl rfl 807 5 812 aX (num_few (by have:=QI.o;omega)) rfl (by decide);have bF:=hid aR;have bE:=hid aQ;have bD:=hid bB;have bC:=hid bA;have bT:=hid aV;clear aR aZ aQ aY bB aX bA aV;refine Rgs.region (by kernel_rfl) (by kernel_rfl) (fun(bW:Nat) (vl:Value) (_:World)=>match bW with | 0=>vl=.string (bsOf (QF j)) | 1=>vl=.string ⟨#[32]⟩ | 2=>vl=.string (bsOf (u1)) | 3=>vl=.pointer (some ⟨gy,0,none⟩) | 4=>vl=.int .i64 (qe:Int) | 5=>vl=.string (bsOf (numB qe)) | 6=>vl=.string (bsOf (u2)) | 7=>vl=.string (bsOf (u3)) | 8=>vl=.pointer (some ⟨gy,1,none⟩) | 9=>vl=.int .i64 (qp:Int) | 10=>vl=.string (bsOf (numB qp)) | 11=>vl=.string (bsOf (u4)) | 12=>vl=.string (bsOf (u4)) | _=>True) (TsW 12 w8 (.string (bsOf (QF j)))) ⟨(Aj _ _).drew,fun _=>rfl⟩ (Rgs.steps_of ?_) ?_
    ·refine⟨?_,?_,?_,?_,?_,?_,?_,?_,?_,?_,?_,?_,?_,trivial⟩<;>intro a w1 live S E D C h0 hk hW
     ·have eR:=D3 C h0 [2,6,7,11] 12 rfl;have e3:a.eval (.tmp 3)=.string (bsOf (QF j)):=hW.t3 eR;exact Dw hW.up
     ·have jZ:a.eval _=.string ⟨#[32]⟩:=E 11 rfl;exact Dw hW.up
     ·have d0:_=_:=rgsDe D 0;have d1:_=_:=rgsDe D 1;exact Dw hW.up
     ·have fP:a.eval _=.pointer (some ⟨gy,0,none⟩):=E 10 rfl;exact Dw hW.up
     ·have d3:_=_:=rgsDe D 3;have aN:=aU.o w1 hW.on 0 _ rfl;exact Dw hW.up
     ·have d4:_=_:=rgsDe D 4;refine Ei 23 #[.int .i64 (qe:Int)] ?_;refine(Ek qe (by have:=QI.o;omega) w1).mono ?_;rintro e w5⟨rfl,aE⟩;exact⟨_,rfl,rfl,(hW.upd aE 5 77 _),fun jq vq _ hq=>hq⟩
     ·have d2:_=_:=rgsDe D 2;have d5:_=_:=rgsDe D 5;exact Dw hW.up
     ·have d6:_=_:=rgsDe D 6;exact Dw hW.up
     ·have fP:a.eval _=.pointer (some ⟨gy,0,none⟩):=E 10 rfl;exact Dw hW.up
     ·have d8:_=_:=rgsDe D 8;have aN:=aU.o w1 hW.on 1 _ rfl;exact Dw hW.up
     ·have d9:_=_:=rgsDe D 9;refine Ei 23 #[.int .i64 (qp:Int)] ?_;refine(Ek qp (by have:=QI.o;omega) w1).mono ?_;rintro e w5⟨rfl,aE⟩;exact⟨_,rfl,rfl,(hW.upd aE 10 82 _),fun jq vq _ hq=>hq⟩
     ·have d7:_=_:=rgsDe D 7;have dB:_=_:=rgsDe D 10;exact Dw hW.up
     have eJ:_=_:=rgsDe D 11;exact Dw ⟨hW.on,fun e=>absurd e (by rw[Rgs.upd_self];decide)⟩
    intro a w4 live hs hd E D Hl hW;have e3:a.eval (.tmp 3)=.string (bsOf (u4)):=by
     obtain⟨v,hv,he⟩:=D 12 _ rfl;exact(he 3 rfl).trans hv
    rw[Rgs.act_ws a _ _ hs hd E [72,73,74,75,76,77,78,79,80,81,82,83,3] (by kernel_rfl)];simp only[List.foldl,Bg,Bv,Bp,e3];have aK:=hid hW.on;clear E D Hl hW e3;generalize a.eval=ρ;clear a hs hd;have HN:Hd (u4=QF (j+1)):=hid (by
     rw[QX.o,bC.o,bD.o,bE.o,bF.o];simp[procT])
    have aL:=hid (bH.o.trans (aK.o.mono bH.o.size));clear aK bH QI QB aU bF bE bD bC bT aD aC aB aA QX;go_wp2;go_roundw
    case rel=>exact⟨j+1,by omega,by go_num,by rw[HN.o],aL.o⟩
    simp[intOf];omega
   have i1:(0:Int) < (j:Int):=by omega
   have QX:Hd (QF (j+1)=QF j++(44::procT ((qe:Int),(qp:Int)))):=hid (by rw[qs,if_neg fH]);clear qs;go_upto_region 21 with fail;obtain⟨u1,aR,aZ,aD⟩:=addT (a:=QF j) (b:=[44]) (x:=(bsOf (QF j))) (y:=⟨#[44]⟩) rfl rfl 800 1 801 QB.o (by show 1<=1;omega) rfl (by decide);obtain⟨u2,aQ,aY,aC⟩:=addT (a:=u1) (b:=numB qe) (x:=(bsOf u1)) (y:=(bsOf (numB qe))) rfl rfl 801 5 806 aZ (num_few (by have:=QI.o;omega)) rfl (by decide);obtain⟨u3,bB,aX,aB⟩:=addT (a:=u2) (b:=[58]) (x:=(bsOf u2)) (y:=⟨#[58]⟩) rfl rfl 806 1 807 aY (by show 1<=1;omega) rfl (by decide);obtain⟨u4,bA,aV,aA⟩:=addT (a:=u3) (b:=numB qp) (x:=(bsOf u3)) (y:=(bsOf (numB qp))) rfl rfl 807 5 812 aX (num_few (by have:=QI.o;omega)) rfl (by decide);have bF:=hid aR;have bE:=hid aQ;have bD:=hid bB;have bC:=hid bA;have bT:=hid aV;clear aR aZ aQ aY bB aX bA aV;refine Rgs.region (by kernel_rfl) (by kernel_rfl) (fun(bW:Nat) (vl:Value) (_:World)=>match bW with | 0=>vl=.string (bsOf (QF j)) | 1=>vl=.string ⟨#[44]⟩ | 2=>vl=.string (bsOf (u1)) | 3=>vl=.pointer (some ⟨gy,0,none⟩) | 4=>vl=.int .i64 (qe:Int) | 5=>vl=.string (bsOf (numB qe)) | 6=>vl=.string (bsOf (u2)) | 7=>vl=.string (bsOf (u3)) | 8=>vl=.pointer (some ⟨gy,1,none⟩) | 9=>vl=.int .i64 (qp:Int) | 10=>vl=.string (bsOf (numB qp)) | 11=>vl=.string (bsOf (u4)) | 12=>vl=.string (bsOf (u4)) | _=>True) (TsW 12 w8 (.string (bsOf (QF j)))) ⟨(Aj _ _).drew,fun _=>rfl⟩ (Rgs.steps_of ?_) ?_
   ·refine⟨?_,?_,?_,?_,?_,?_,?_,?_,?_,?_,?_,?_,?_,trivial⟩<;>intro a w1 live S E D C h0 hk hW
    ·have eR:=D3 C h0 [2,6,7,11] 12 rfl;have e3:a.eval (.tmp 3)=.string (bsOf (QF j)):=hW.t3 eR;exact Dw hW.up
    ·have jZ:a.eval _=.string ⟨#[44]⟩:=E 11 rfl;exact Dw hW.up
    ·have d0:_=_:=rgsDe D 0;have d1:_=_:=rgsDe D 1;exact Dw hW.up
    ·have fP:a.eval _=.pointer (some ⟨gy,0,none⟩):=E 10 rfl;exact Dw hW.up
    ·have d3:_=_:=rgsDe D 3;have aN:=aU.o w1 hW.on 0 _ rfl;exact Dw hW.up
    ·have d4:_=_:=rgsDe D 4;refine Ei 23 #[.int .i64 (qe:Int)] ?_;refine(Ek qe (by have:=QI.o;omega) w1).mono ?_;rintro e w5⟨rfl,aE⟩;exact⟨_,rfl,rfl,(hW.upd aE 5 77 _),fun jq vq _ hq=>hq⟩
    ·have d2:_=_:=rgsDe D 2;have d5:_=_:=rgsDe D 5;exact Dw hW.up
    ·have d6:_=_:=rgsDe D 6;exact Dw hW.up
    ·have fP:a.eval _=.pointer (some ⟨gy,0,none⟩):=E 10 rfl;exact Dw hW.up
    ·have d8:_=_:=rgsDe D 8;have aN:=aU.o w1 hW.on 1 _ rfl;exact Dw hW.up
    ·have d9:_=_:=rgsDe D 9;refine Ei 23 #[.int .i64 (qp:Int)] ?_;refine(Ek qp (by have:=QI.o;omega) w1).mono ?_;rintro e w5⟨rfl,aE⟩;exact⟨_,rfl,rfl,(hW.upd aE 10 82 _),fun jq vq _ hq=>hq⟩
    ·have d7:_=_:=rgsDe D 7;have dB:_=_:=rgsDe D 10;exact Dw hW.up
    have eJ:_=_:=rgsDe D 11;exact Dw ⟨hW.on,fun e=>absurd e (by rw[Rgs.upd_self];decide)⟩
   intro a w4 live hs hd E D Hl hW;have e3:a.eval (.tmp 3)=.string (bsOf (u4)):=by
    obtain⟨v,hv,he⟩:=D 12 _ rfl;exact(he 3 rfl).trans hv
   rw[Rgs.act_ws a _ _ hs hd E [72,73,74,75,76,77,78,79,80,81,82,83,3] (by kernel_rfl)];simp only[List.foldl,Bg,Bv,Bp,e3];have aK:=hid hW.on;clear E D Hl hW e3;generalize a.eval=ρ;clear a hs hd;have HN:Hd (u4=QF (j+1)):=hid (by
    rw[QX.o,bC.o,bD.o,bE.o,bF.o];simp[procT])
   have aL:=hid (bH.o.trans (aK.o.mono bH.o.size));clear aK bH QI QB aU bF bE bD bC bT aD aC aB aA QX;go_wp2;go_roundw
   case rel=>exact⟨j+1,by omega,by go_num,by rw[HN.o],aL.o⟩
   simp[intOf];omega
  have jI:¬ (j:Int) < (pn:Int):=by omega
  obtain rfl:j=pn:=by omega
  have dV:∀ W,(Op.stringOp .add (bsOf (QF j)) ⟨#[10]⟩).run Tryz.prog W=.ok (.string (bsOf (PF (i+1)))) W:=by
   rw[iK.o];exact sadd (QF j) [10] (by have h1:=fR.o j;show _+1<=_;omega)
  have bS:=hid (eO.o.trans (hb.mono eO.o.size));have gC:=hid (iS.o.below rfl hb);clear QS fR iM iK iO hb eO iS;go_wp2;go_roundw
  case rel=>exact⟨i+1,A6,c6,by omega,by go_num,rfl,by go_num,gC.o,bS.o⟩
  simp[intOf];omega
 have jF:¬ (i:Int) < (n1:Int):=by omega
 obtain rfl:i=n1:=by omega
 have NR:Hd (RdB sc wr wr.heap.size A i (namesP P)):=hid ⟨by have h1:=dE.o.1;unfold namesP;rw[Bi];exact h1,by
  have h:=HO.o.rd;rw[Bd (by have h1:=dE.o.1;omega)] at h;exact h⟩
 have eC:=hid hb;obtain⟨m0,m1,m2⟩:=eB.o _ hb;clear HO hb fX gA fZ dD gJ;go_wp2;clear m0 m1 m2;go_loopw [3,13,14,91] (fun q _ _ s wx=>∃(k:Nat),k<=n2/\s=.int .i64 k/\q=.string (bsOf (CF k))/\Below wr.heap.size wr wx) (fun _ _ _ s _=>n2 - (intOf s).toNat)
 case atStart=>exact⟨0,by omega,rfl,by rw[gI.o],Aj _ _⟩
 obtain⟨k,hk,rfl,rfl,hb⟩:=hrel;by_cases jH:k < n2
 ·obtain⟨ac,x,rfl,jW,hx,d0,ck⟩:=(gG.o.on (HW.o _ (eC.o.trans (hb.mono eC.o.size)))).at_ Gk (by omega) jH;have d0:=d0 _ rfl;have d1:=ck 1 _ (by omega) rfl;have d2:=ck 2 _ (by omega) rfl;have d3:=ck 3 _ (by omega) rfl;have d4:=ck 4 _ (by omega) rfl;have d5:=ck 5 _ (by omega) rfl;have CI:=hid (gF.o k x hx);have CX:=hid (gE.o k x hx);have CB:=hid (gH.o k hk);obtain⟨kT,kQ,xq,kU,kR,kS⟩:=x;dsimp only at d0 d1 d2 d3 d4 d5 CI CX;obtain⟨xf,h1⟩:=Ax CI.o.fr.1;obtain⟨xt,h2⟩:=Ax CI.o.tt.1;obtain⟨xc,h3⟩:=Ax CI.o.cap.1;obtain⟨xm,h4⟩:=Ax CI.o.max.1;obtain⟨xl,h5⟩:=Ax CI.o.late.1;dsimp only at h1 h2 h3 h4 h5;subst h1 h2 h3 h4 h5;have bG:Hd (xf < i/\xt < i/\xc<=8/\xm<=4294967295/\xl<=4096):=hid (by
   have h1:=CI.o.fr;have h2:=CI.o.tt;have h3:=CI.o.cap;have h4:=CI.o.max;have h5:=CI.o.late;dsimp only at h1 h2 h3 h4 h5;omega)
  have cV:Hd ((xf:Int) < (i:Int)/\xf < i/\(xt:Int) < (i:Int)/\xt < i):=hid (by have:=bG.o;omega);have iQ:Hd (IntKind.i64.wrap (xm:Int)=(xm:Int)):=hid (Nf (by have:=bG.o;omega));obtain⟨an,nx,rfl,jV,fD,a0,ak⟩:=(NR.o.on hb).at_ Fl (by omega) cV.o.2.1;obtain⟨kJ,ny,iD,fM,fC,b0,bk⟩:=(NR.o.on hb).at_ Fl (by omega) cV.o.2.2.2;obtain rfl:an=kJ:=by injection iD
  have a0:=a0 _ rfl;have b0:=b0 _ rfl;rw[Cj] at a0 b0;have dK:Hd (nmP (namesP P) (xf:Int)=nx/\nmP (namesP P) (xt:Int)=ny):=hid ⟨Iq (by omega) fD,Iq (by omega) fC⟩;have dJ:Hd (nx.length<=64/\ny.length<=64):=hid ⟨eL.o _ (An fD),eL.o _ (An fC)⟩;have bM:=bl1 wr (.cells #[.int .i64 (xf:Int),.int .i64 (xt:Int),.bool xq,.int .i64 (xc:Int),.int .u32 (xm:Int),.int .i64 (xl:Int)] 66);have cY:=hb.trans (bM.mono hb.size);have f:∀ o v,(#[Value.int .i64 (xf:Int),.int .i64 (xt:Int),.bool xq,.int .i64 (xc:Int),.int .u32 (xm:Int),.int .i64 (xl:Int)]:Array Value)[o]? = some v->(wr.alloc (.cells #[.int .i64 (xf:Int),.int .i64 (xt:Int),.bool xq,.int .i64 (xc:Int),.int .u32 (xm:Int),.int .i64 (xl:Int)] 66)).cell? ⟨wr.heap.size,o,none⟩=some v:=fun o v hv=>(Ab _ _ _ _ _).trans hv;have bY:wr.heap.size < (wr.alloc (.cells #[.int .i64 (xf:Int),.int .i64 (xt:Int),.bool xq,.int .i64 (xc:Int),.int .u32 (xm:Int),.int .i64 (xl:Int)] 66)).heap.size:=by simp
  have a1:=(bM.cell (Bj _ _ a0)).trans a0;have b1:=(bM.cell (Bj _ _ b0)).trans b0;clear ck jW hx bM hb jV fM fD fC ak bk iD CI a0 b0;go_upto_region 28 with fail;generalize wr.alloc (.cells #[.int .i64 (xf:Int),.int .i64 (xt:Int),.bool xq,.int .i64 (xc:Int),.int .u32 (xm:Int),.int .i64 (xl:Int)] 66)=w8 at cY f bY a1 b1 |-;generalize wr.heap.size=gy at f bY |-;have bH:=hid cY
  have aU:=hid fun V (hv:Below w8.heap.size w8 V) o v hq=>(hv.cell (p:=⟨gy,o,none⟩) bY).trans (f o v hq);have bQ:=hid fun V (hv:Below w8.heap.size w8 V)=>(hv.cell (Bj _ _ a1)).trans a1;have bP:=hid fun V (hv:Below w8.heap.size w8 V)=>(hv.cell (Bj _ _ b1)).trans b1;clear cY bY f d0 d1 d2 d3 d4 d5 a1 b1;cases xq with
  | true =>
   have f2:=aU.o w8 (Aj _ _) 2 _ rfl;have f3:=aU.o w8 (Aj _ _) 3 _ rfl;obtain⟨qt,dO⟩:∃ t,t=[113]++numB xc:=⟨_,rfl⟩;have gM:qt.length<=6:=by
    have h1:=num_few (n:=xc) (by have:=bG.o;omega);rw[dO,Aa];show 1+_<=6;omega
   have dV:∀ W,(Op.stringOp .add ⟨#[113]⟩ (bsOf (numB xc))).run Tryz.prog W=.ok (.string (bsOf qt)) W:=by
    rw[dO];exact sadd [113] (numB xc) (by rw[<- Aa,<- dO];omega)
   have kK:=hid gM;have kL:Hd (113::numB xc=qt):=hid (by rw[dO];rfl);clear dO gM;go_wp2_with fail;refine(Ek xc (by have:=bG.o;omega) w8).mono ?_;rintro e bU⟨rfl,aT⟩;have bR:=hid fun V (hv:Below bU.heap.size bU V)=>aU.o V (aT.trans (hv.mono aT.size));have dX:=hid fun V (hv:Below bU.heap.size bU V)=>bQ.o V (aT.trans (hv.mono aT.size));have dW:=hid fun V (hv:Below bU.heap.size bU V)=>bP.o V (aT.trans (hv.mono aT.size));have aL:=hid (bH.o.trans (aT.mono bH.o.size));clear f2 f3 aT aU bQ bP bH;go_upto_region 31 with fail;obtain⟨u1,aR,aZ,aD⟩:=addT (a:=CF k) (b:=[99,104,97,110,32]) (x:=(bsOf (CF k))) (y:=⟨#[99,104,97,110,32]⟩) rfl rfl 2000 5 2005 CB.o (by show 5<=5;omega) rfl (by decide);obtain⟨u2,aQ,aY,aC⟩:=addT (a:=u1) (b:=nx) (x:=(bsOf u1)) (y:=(bsOf (nx))) rfl rfl 2005 64 2069 aZ dJ.o.1 rfl (by decide);obtain⟨u3,bB,aX,aB⟩:=addT (a:=u2) (b:=[32]) (x:=(bsOf u2)) (y:=⟨#[32]⟩) rfl rfl 2069 1 2070 aY (by show 1<=1;omega) rfl (by decide);obtain⟨u4,bA,aV,aA⟩:=addT (a:=u3) (b:=ny) (x:=(bsOf u3)) (y:=(bsOf (ny))) rfl rfl 2070 64 2134 aX dJ.o.2 rfl (by decide);obtain⟨u5,cK,cF,aJ⟩:=addT (a:=u4) (b:=[32]) (x:=(bsOf u4)) (y:=⟨#[32]⟩) rfl rfl 2134 1 2135 aV (by show 1<=1;omega) rfl (by decide);obtain⟨u6,cJ,cE,aI⟩:=addT (a:=u5) (b:=qt) (x:=(bsOf u5)) (y:=(bsOf (qt))) rfl rfl 2135 6 2141 cF kK.o rfl (by decide);obtain⟨u7,cI,cD,aH⟩:=addT (a:=u6) (b:=[32]) (x:=(bsOf u6)) (y:=⟨#[32]⟩) rfl rfl 2141 1 2142 cE (by show 1<=1;omega) rfl (by decide);obtain⟨u8,cH,cC,aG⟩:=addT (a:=u7) (b:=numB xm) (x:=(bsOf u7)) (y:=(bsOf (numB xm))) rfl rfl 2142 10 2152 cD (num_len_le 9 _ (by have:=bG.o;omega)) rfl (by decide);obtain⟨u9,cG,cA,aF⟩:=addT (a:=u8) (b:=[32]) (x:=(bsOf u8)) (y:=⟨#[32]⟩) rfl rfl 2152 1 2153 cC (by show 1<=1;omega) rfl (by decide);obtain⟨cX,bL,bJ,aP⟩:=addT (a:=u9) (b:=numB xl) (x:=(bsOf u9)) (y:=(bsOf (numB xl))) rfl rfl 2153 5 2158 cA (num_few (by have:=bG.o;omega)) rfl (by decide);obtain⟨bV,bK,bI,aO⟩:=addT (a:=cX) (b:=[10]) (x:=(bsOf cX)) (y:=⟨#[10]⟩) rfl rfl 2158 1 2159 bJ (by show 1<=1;omega) rfl (by decide);have bF:=hid aR;have bE:=hid aQ;have bD:=hid bB;have bC:=hid bA;have cU:=hid cK;have cR:=hid cJ;have cQ:=hid cI;have cP:=hid cH;have cO:=hid cG;have bO:=hid bL;have bN:=hid bK;have bT:=hid bI;clear aR aZ aQ aY bB aX bA aV cK cF cJ cE cI cD cH cC cG cA bL bJ bK bI;refine Rgs.region (by kernel_rfl) (by kernel_rfl) (fun(bW:Nat) (vl:Value) (_:World)=>match bW with | 0=>vl=.string (bsOf (CF k)) | 1=>vl=.string (bsOf (u1)) | 2=>vl=.slice (some an) i c | 3=>vl=.pointer (some ⟨gy,0,none⟩) | 4=>vl=.int .i64 (xf:Int) | 5=>vl=.pointer (some (an.add xf)) | 6=>vl=.string (bsOf (nx)) | 7=>vl=.string (bsOf (u2)) | 8=>vl=.string (bsOf (u3)) | 9=>vl=.slice (some an) i c | 10=>vl=.pointer (some ⟨gy,1,none⟩) | 11=>vl=.int .i64 (xt:Int) | 12=>vl=.pointer (some (an.add xt)) | 13=>vl=.string (bsOf (ny)) | 14=>vl=.string (bsOf (u4)) | 15=>vl=.string (bsOf (u5)) | 16=>vl=.string (bsOf (qt)) | 17=>vl=.string (bsOf (u6)) | 18=>vl=.string (bsOf (u7)) | 19=>vl=.pointer (some ⟨gy,4,none⟩) | 20=>vl=.int .u32 (xm:Int) | 21=>vl=.int .i64 (xm:Int) | 22=>vl=.string (bsOf (numB xm)) | 23=>vl=.string (bsOf (u8)) | 24=>vl=.string (bsOf (u9)) | 25=>vl=.pointer (some ⟨gy,5,none⟩) | 26=>vl=.int .i64 (xl:Int) | 27=>vl=.string (bsOf (numB xl)) | 28=>vl=.string (bsOf (cX)) | 29=>vl=.string (bsOf (bV)) | 30=>vl=.string (bsOf (bV)) | _=>True) (TsW 30 bU (.string (bsOf (CF k)))) ⟨(Aj _ _).drew,fun _=>rfl⟩ (Rgs.steps_of ?_) ?_
   ·refine⟨?_,?_,?_,?_,?_,?_,?_,?_,?_,?_,?_,?_,?_,?_,?_,?_,?_,?_,?_,?_,?_,?_,?_,?_,?_,?_,?_,?_,?_,?_,?_,trivial⟩<;>intro a w1 live S E D C h0 hk hW
    ·have eQ:=D3 C h0 [1,7,8,14,15,17,18,23,24,28,29] 30 rfl;have e3:a.eval (.tmp 3)=.string (bsOf (CF k)):=hW.t3 eQ;exact Dw hW.up
    ·have d0:_=_:=rgsDe D 0;exact Dw hW.up
    ·have e4:a.eval _=.slice (some an) i c:=E 4 rfl;exact Dw hW.up
    ·have dA:a.eval _=.pointer (some ⟨gy,0,none⟩):=E 13 rfl;exact Dw hW.up
    ·have d3:_=_:=rgsDe D 3;have aN:=bR.o w1 hW.on 0 _ rfl;exact Dw hW.up
    ·have d2:_=_:=rgsDe D 2;have d4:_=_:=rgsDe D 4;have ix:=cV.o;obtain⟨eV,eU,eT,eS⟩:=ix;exact Dw hW.up
    ·have d5:_=_:=rgsDe D 5;have aN:=dX.o w1 hW.on;exact Dw hW.up
    ·have d1:_=_:=rgsDe D 1;have d6:_=_:=rgsDe D 6;exact Dw hW.up
    ·have d7:_=_:=rgsDe D 7;exact Dw hW.up
    ·have e4:a.eval _=.slice (some an) i c:=E 4 rfl;exact Dw hW.up
    ·have dA:a.eval _=.pointer (some ⟨gy,0,none⟩):=E 13 rfl;exact Dw hW.up
    ·have dB:_=_:=rgsDe D 10;have aN:=bR.o w1 hW.on 1 _ rfl;exact Dw hW.up
    ·have d9:_=_:=rgsDe D 9;have eJ:_=_:=rgsDe D 11;have ix:=cV.o;obtain⟨eV,eU,eT,eS⟩:=ix;exact Dw hW.up
    ·have d12:_=_:=rgsDe D 12;have aN:=dW.o w1 hW.on;exact Dw hW.up
    ·have d8:_=_:=rgsDe D 8;have d13:_=_:=rgsDe D 13;exact Dw hW.up
    ·have iJ:_=_:=rgsDe D 14;exact Dw hW.up
    ·have jY:a.eval _=.string (bsOf (qt)):=E 14 rfl;exact Dw hW.up
    ·have iI:_=_:=rgsDe D 15;have iH:_=_:=rgsDe D 16;exact Dw hW.up
    ·have iG:_=_:=rgsDe D 17;exact Dw hW.up
    ·have dA:a.eval _=.pointer (some ⟨gy,0,none⟩):=E 13 rfl;exact Dw hW.up
    ·have iE:_=_:=rgsDe D 19;have aN:=bR.o w1 hW.on 4 _ rfl;exact Dw hW.up
    ·have kI:_=_:=rgsDe D 20;have jB:=iQ.o;exact Dw hW.up
    ·have kH:_=_:=rgsDe D 21;refine Ei 23 #[.int .i64 (xm:Int)] ?_;refine(Ek xm (by have:=bG.o;omega) w1).mono ?_;rintro e w5⟨rfl,aE⟩;exact⟨_,rfl,rfl,(hW.upd aE 22 123 _),fun jq vq _ hq=>hq⟩
    ·have iF:_=_:=rgsDe D 18;have kG:_=_:=rgsDe D 22;exact Dw hW.up
    ·have d23:_=_:=rgsDe D 23;exact Dw hW.up
    ·have dA:a.eval _=.pointer (some ⟨gy,0,none⟩):=E 13 rfl;exact Dw hW.up
    ·have kE:_=_:=rgsDe D 25;have aN:=bR.o w1 hW.on 5 _ rfl;exact Dw hW.up
    ·have kD:_=_:=rgsDe D 26;refine Ei 23 #[.int .i64 (xl:Int)] ?_;refine(Ek xl (by have:=bG.o;omega) w1).mono ?_;rintro e w5⟨rfl,aE⟩;exact⟨_,rfl,rfl,(hW.upd aE 27 128 _),fun jq vq _ hq=>hq⟩
    ·have kF:_=_:=rgsDe D 24;have kC:_=_:=rgsDe D 27;exact Dw hW.up
    ·have kB:_=_:=rgsDe D 28;exact Dw hW.up
    have kA:_=_:=rgsDe D 29;exact Dw ⟨hW.on,fun e=>absurd e (by rw[Rgs.upd_self];decide)⟩
   intro a w4 live hs hd E D Hl hW;have e3:a.eval (.tmp 3)=.string (bsOf (bV)):=by
    obtain⟨v,hv,he⟩:=D 30 _ rfl;exact(he 3 rfl).trans hv
   rw[Rgs.act_ws a _ _ hs hd E [101,102,103,104,105,106,107,108,109,110,111,112,113,114,115,116,117,118,119,120,121,122,123,124,125,126,127,128,129,130,3] (by kernel_rfl)];simp only[List.foldl,Bg,Bv,Bp,e3];have aK:=hid hW.on;clear E D Hl hW e3;generalize a.eval=ρ;clear a hs hd;have HN:Hd (bV=CF (k+1)):=hid (by
    rw[CX.o,bN.o,bO.o,cO.o,cP.o,cQ.o,cR.o,cU.o,bC.o,bD.o,bE.o,bF.o,Om];dsimp only;rw[dK.o.1,dK.o.2];rw[if_pos rfl];simp only[Bx];rw[kL.o];simp[wChan])
   have bS:=hid (aL.o.trans (aK.o.mono aL.o.size));clear aK aL CB bG bR dX dW bF bE bD bC cU cR cQ cP cO bO bN bT aD aC aB aA aJ aI aH aG aF aP aO CX dK dJ cV;go_wp2;go_roundw
   case rel=>exact⟨k+1,by omega,by go_num,by rw[HN.o],bS.o⟩
   simp[intOf];omega
  | false =>
   have f2:=aU.o w8 (Aj _ _) 2 _ rfl;obtain⟨bU,dL⟩:∃ v,v=w8:=⟨_,rfl⟩;rw[<- dL] at aU bQ bP bH f2 |-;clear dL;have bR:=aU;have dX:=bQ;have dW:=bP;have aL:=bH;clear aU bQ bP bH;go_upto_region 31 with fail;obtain⟨u1,aR,aZ,aD⟩:=addT (a:=CF k) (b:=[99,104,97,110,32]) (x:=(bsOf (CF k))) (y:=⟨#[99,104,97,110,32]⟩) rfl rfl 2000 5 2005 CB.o (by show 5<=5;omega) rfl (by decide);obtain⟨u2,aQ,aY,aC⟩:=addT (a:=u1) (b:=nx) (x:=(bsOf u1)) (y:=(bsOf (nx))) rfl rfl 2005 64 2069 aZ dJ.o.1 rfl (by decide);obtain⟨u3,bB,aX,aB⟩:=addT (a:=u2) (b:=[32]) (x:=(bsOf u2)) (y:=⟨#[32]⟩) rfl rfl 2069 1 2070 aY (by show 1<=1;omega) rfl (by decide);obtain⟨u4,bA,aV,aA⟩:=addT (a:=u3) (b:=ny) (x:=(bsOf u3)) (y:=(bsOf (ny))) rfl rfl 2070 64 2134 aX dJ.o.2 rfl (by decide);obtain⟨u5,cK,cF,aJ⟩:=addT (a:=u4) (b:=[32]) (x:=(bsOf u4)) (y:=⟨#[32]⟩) rfl rfl 2134 1 2135 aV (by show 1<=1;omega) rfl (by decide);obtain⟨u6,cJ,cE,aI⟩:=addT (a:=u5) (b:=[115]) (x:=(bsOf u5)) (y:=⟨#[115]⟩) rfl rfl 2135 1 2136 cF (by show 1<=1;omega) rfl (by decide);obtain⟨u7,cI,cD,aH⟩:=addT (a:=u6) (b:=[32]) (x:=(bsOf u6)) (y:=⟨#[32]⟩) rfl rfl 2136 1 2137 cE (by show 1<=1;omega) rfl (by decide);obtain⟨u8,cH,cC,aG⟩:=addT (a:=u7) (b:=numB xm) (x:=(bsOf u7)) (y:=(bsOf (numB xm))) rfl rfl 2137 10 2147 cD (num_len_le 9 _ (by have:=bG.o;omega)) rfl (by decide);obtain⟨u9,cG,cA,aF⟩:=addT (a:=u8) (b:=[32]) (x:=(bsOf u8)) (y:=⟨#[32]⟩) rfl rfl 2147 1 2148 cC (by show 1<=1;omega) rfl (by decide);obtain⟨cX,bL,bJ,aP⟩:=addT (a:=u9) (b:=numB xl) (x:=(bsOf u9)) (y:=(bsOf (numB xl))) rfl rfl 2148 5 2153 cA (num_few (by have:=bG.o;omega)) rfl (by decide);obtain⟨bV,bK,bI,aO⟩:=addT (a:=cX) (b:=[10]) (x:=(bsOf cX)) (y:=⟨#[10]⟩) rfl rfl 2153 1 2154 bJ (by show 1<=1;omega) rfl (by decide);have bF:=hid aR;have bE:=hid aQ;have bD:=hid bB;have bC:=hid bA;have cU:=hid cK;have cR:=hid cJ;have cQ:=hid cI;have cP:=hid cH;have cO:=hid cG;have bO:=hid bL;have bN:=hid bK;have bT:=hid bI;clear aR aZ aQ aY bB aX bA aV cK cF cJ cE cI cD cH cC cG cA bL bJ bK bI;refine Rgs.region (by kernel_rfl) (by kernel_rfl) (fun(bW:Nat) (vl:Value) (_:World)=>match bW with | 0=>vl=.string (bsOf (CF k)) | 1=>vl=.string (bsOf (u1)) | 2=>vl=.slice (some an) i c | 3=>vl=.pointer (some ⟨gy,0,none⟩) | 4=>vl=.int .i64 (xf:Int) | 5=>vl=.pointer (some (an.add xf)) | 6=>vl=.string (bsOf (nx)) | 7=>vl=.string (bsOf (u2)) | 8=>vl=.string (bsOf (u3)) | 9=>vl=.slice (some an) i c | 10=>vl=.pointer (some ⟨gy,1,none⟩) | 11=>vl=.int .i64 (xt:Int) | 12=>vl=.pointer (some (an.add xt)) | 13=>vl=.string (bsOf (ny)) | 14=>vl=.string (bsOf (u4)) | 15=>vl=.string (bsOf (u5)) | 16=>vl=.string ⟨#[115]⟩ | 17=>vl=.string (bsOf (u6)) | 18=>vl=.string (bsOf (u7)) | 19=>vl=.pointer (some ⟨gy,4,none⟩) | 20=>vl=.int .u32 (xm:Int) | 21=>vl=.int .i64 (xm:Int) | 22=>vl=.string (bsOf (numB xm)) | 23=>vl=.string (bsOf (u8)) | 24=>vl=.string (bsOf (u9)) | 25=>vl=.pointer (some ⟨gy,5,none⟩) | 26=>vl=.int .i64 (xl:Int) | 27=>vl=.string (bsOf (numB xl)) | 28=>vl=.string (bsOf (cX)) | 29=>vl=.string (bsOf (bV)) | 30=>vl=.string (bsOf (bV)) | _=>True) (TsW 30 bU (.string (bsOf (CF k)))) ⟨(Aj _ _).drew,fun _=>rfl⟩ (Rgs.steps_of ?_) ?_
   ·refine⟨?_,?_,?_,?_,?_,?_,?_,?_,?_,?_,?_,?_,?_,?_,?_,?_,?_,?_,?_,?_,?_,?_,?_,?_,?_,?_,?_,?_,?_,?_,?_,trivial⟩<;>intro a w1 live S E D C h0 hk hW
    ·have eQ:=D3 C h0 [1,7,8,14,15,17,18,23,24,28,29] 30 rfl;have e3:a.eval (.tmp 3)=.string (bsOf (CF k)):=hW.t3 eQ;exact Dw hW.up
    ·have d0:_=_:=rgsDe D 0;exact Dw hW.up
    ·have e4:a.eval _=.slice (some an) i c:=E 4 rfl;exact Dw hW.up
    ·have dA:a.eval _=.pointer (some ⟨gy,0,none⟩):=E 13 rfl;exact Dw hW.up
    ·have d3:_=_:=rgsDe D 3;have aN:=bR.o w1 hW.on 0 _ rfl;exact Dw hW.up
    ·have d2:_=_:=rgsDe D 2;have d4:_=_:=rgsDe D 4;have ix:=cV.o;obtain⟨eV,eU,eT,eS⟩:=ix;exact Dw hW.up
    ·have d5:_=_:=rgsDe D 5;have aN:=dX.o w1 hW.on;exact Dw hW.up
    ·have d1:_=_:=rgsDe D 1;have d6:_=_:=rgsDe D 6;exact Dw hW.up
    ·have d7:_=_:=rgsDe D 7;exact Dw hW.up
    ·have e4:a.eval _=.slice (some an) i c:=E 4 rfl;exact Dw hW.up
    ·have dA:a.eval _=.pointer (some ⟨gy,0,none⟩):=E 13 rfl;exact Dw hW.up
    ·have dB:_=_:=rgsDe D 10;have aN:=bR.o w1 hW.on 1 _ rfl;exact Dw hW.up
    ·have d9:_=_:=rgsDe D 9;have eJ:_=_:=rgsDe D 11;have ix:=cV.o;obtain⟨eV,eU,eT,eS⟩:=ix;exact Dw hW.up
    ·have d12:_=_:=rgsDe D 12;have aN:=dW.o w1 hW.on;exact Dw hW.up
    ·have d8:_=_:=rgsDe D 8;have d13:_=_:=rgsDe D 13;exact Dw hW.up
    ·have iJ:_=_:=rgsDe D 14;exact Dw hW.up
    ·have jY:a.eval _=.string ⟨#[115]⟩:=E 14 rfl;exact Dw hW.up
    ·have iI:_=_:=rgsDe D 15;have iH:_=_:=rgsDe D 16;exact Dw hW.up
    ·have iG:_=_:=rgsDe D 17;exact Dw hW.up
    ·have dA:a.eval _=.pointer (some ⟨gy,0,none⟩):=E 13 rfl;exact Dw hW.up
    ·have iE:_=_:=rgsDe D 19;have aN:=bR.o w1 hW.on 4 _ rfl;exact Dw hW.up
    ·have kI:_=_:=rgsDe D 20;have jB:=iQ.o;exact Dw hW.up
    ·have kH:_=_:=rgsDe D 21;refine Ei 23 #[.int .i64 (xm:Int)] ?_;refine(Ek xm (by have:=bG.o;omega) w1).mono ?_;rintro e w5⟨rfl,aE⟩;exact⟨_,rfl,rfl,(hW.upd aE 22 123 _),fun jq vq _ hq=>hq⟩
    ·have iF:_=_:=rgsDe D 18;have kG:_=_:=rgsDe D 22;exact Dw hW.up
    ·have d23:_=_:=rgsDe D 23;exact Dw hW.up
    ·have dA:a.eval _=.pointer (some ⟨gy,0,none⟩):=E 13 rfl;exact Dw hW.up
    ·have kE:_=_:=rgsDe D 25;have aN:=bR.o w1 hW.on 5 _ rfl;exact Dw hW.up
    ·have kD:_=_:=rgsDe D 26;refine Ei 23 #[.int .i64 (xl:Int)] ?_;refine(Ek xl (by have:=bG.o;omega) w1).mono ?_;rintro e w5⟨rfl,aE⟩;exact⟨_,rfl,rfl,(hW.upd aE 27 128 _),fun jq vq _ hq=>hq⟩
    ·have kF:_=_:=rgsDe D 24;have kC:_=_:=rgsDe D 27;exact Dw hW.up
    ·have kB:_=_:=rgsDe D 28;exact Dw hW.up
    have kA:_=_:=rgsDe D 29;exact Dw ⟨hW.on,fun e=>absurd e (by rw[Rgs.upd_self];decide)⟩
   intro a w4 live hs hd E D Hl hW;have e3:a.eval (.tmp 3)=.string (bsOf (bV)):=by
    obtain⟨v,hv,he⟩:=D 30 _ rfl;exact(he 3 rfl).trans hv
   rw[Rgs.act_ws a _ _ hs hd E [101,102,103,104,105,106,107,108,109,110,111,112,113,114,115,116,117,118,119,120,121,122,123,124,125,126,127,128,129,130,3] (by kernel_rfl)];simp only[List.foldl,Bg,Bv,Bp,e3];have aK:=hid hW.on;clear E D Hl hW e3;generalize a.eval=ρ;clear a hs hd;have HN:Hd (bV=CF (k+1)):=hid (by
    rw[CX.o,bN.o,bO.o,cO.o,cP.o,cQ.o,cR.o,cU.o,bC.o,bD.o,bE.o,bF.o,Om];dsimp only;rw[dK.o.1,dK.o.2];simp[wChan])
   have bS:=hid (aL.o.trans (aK.o.mono aL.o.size));clear aK aL CB bG bR dX dW bF bE bD bC cU cR cQ cP cO bO bN bT aD aC aB aA aJ aI aH aG aF aP aO CX dK dJ cV;go_wp2;go_roundw
   case rel=>exact⟨k+1,by omega,by go_num,by rw[HN.o],bS.o⟩
   simp[intOf];omega
 have jG:¬ (k:Int) < (n2:Int):=by omega
 obtain rfl:k=n2:=by omega
 have dG:=hid (eC.o.trans (hb.mono eC.o.size));have iP:=hid (NR.o.on hb);obtain⟨m0,m1,m2⟩:=eB.o _ dG.o;clear NR hb gE gH gF gG eC gI;go_wp2;clear m0 m1 m2;go_loopw [3,16,135] (fun q _ s wx=>∃(t:Nat),t<=n3/\s=.int .i64 t/\q=.string (bsOf (TF t))/\Below wr.heap.size wr wx) (fun _ _ s _=>n3 - (intOf s).toNat)
 case atStart=>exact⟨0,by omega,rfl,by rw[iR.o],Aj _ _⟩
 obtain⟨t,ht,rfl,rfl,hb⟩:=hrel;by_cases fE:t < n3
 ·obtain⟨kV,y,rfl,fN,hy,c0,ck⟩:=(fV.o.on (HW.o _ (dG.o.trans (hb.mono dG.o.size)))).at_ Hm (by omega) fE;have c0:=c0 _ rfl;rw[Cj] at c0;have eE:=fU.o y (An hy);obtain⟨f,hf⟩:∃ f,Fs[t]? = some f:=⟨_,Am (by have:=iT.o;omega)⟩;obtain⟨z,kf,rfl,fA,gN⟩:=gD.o t y f hy hf;have dM:=fT.o t _ hf;have jC:=bZ.o t ht;have eY:=bZ.o (t+1) (by omega);have gS:=fY.o y (An hy);have gZ:y.l.drop 0=(F.cons z kf .nil).flat++[]:=by rw[gN];show z::kf.flat=(z::(kf.flat++[]))++[];simp
  have HC:=hid (R7 y.A y.n y.c y.l eE.2.1 (by have:=eE.2.2;omega) A i c (namesP P) eL.o (kf.sz+1) 0 z kf .nil [] wr (Ca _) ((eE.1.on (HW.o _ dG.o)).on hb) fA gZ (iP.o.on hb) gS);rw[M5,Ky] at dM;obtain⟨TX,iA⟩:∃ l,l=txN (nmP (namesP P)) z (txX (nmP (namesP P)) kf false):=⟨_,rfl⟩;rw[<- iA] at dM HC;have fF:(TF (t+1)).length=(TF t).length+(6+TX.length+1):=by
   rw[dM];simp only[Aa,Ad,Bh,show wTable.length=5 from rfl]
  have dU:∀ W,(Op.stringOp .add (bsOf (TF t)) ⟨#[116,97,98,108,101,32]⟩).run Tryz.prog W=.ok (.string (bsOf (TF t++[116,97,98,108,101,32]))) W:=sadd (TF t) [116,97,98,108,101,32] (by show _+6<=_;omega);have cM:∀ W,(Op.stringOp .add (bsOf (TF t++[116,97,98,108,101,32])) (bsOf TX)).run Tryz.prog W=.ok (.string (bsOf ((TF t++[116,97,98,108,101,32])++TX))) W:=sadd (TF t++[116,97,98,108,101,32]) TX (by rw[Aa];show _+6+_<=_;omega);have cL:∀ W,(Op.stringOp .add (bsOf ((TF t++[116,97,98,108,101,32])++TX)) ⟨#[10]⟩).run Tryz.prog W=.ok (.string (bsOf (TF (t+1)))) W:=by
   rw[show TF (t+1)=((TF t++[116,97,98,108,101,32])++TX)++[10] by rw[dM];simp[wTable]];exact sadd ((TF t++[116,97,98,108,101,32])++TX) [10] (by rw[Aa,Aa];show _+6+_+1<=_;omega)
  obtain⟨u1,aR⟩:∃ l,l=TF t++[116,97,98,108,101,32]:=⟨_,rfl⟩;rw[<- aR] at dU cM cL;obtain⟨u2,aQ⟩:∃ l,l=u1++TX:=⟨_,rfl⟩;rw[<- aQ] at cM cL;obtain⟨tA,tn,tc,tl⟩:=y;dsimp only at c0 HC;have HB:=hid hb;clear ck fN hy eE hf fA gN dM jC eY gS gZ iA fF aR aQ hb;go_wp2_with fail;refine HC.o.mono ?_;rintro e w9⟨rfl,dT⟩;have eD:=hid (HB.o.trans (dT.mono HB.o.size));clear dT HB HC c0;go_wp2;go_roundw
  case rel=>exact⟨t+1,by omega,by go_num,rfl,eD.o⟩
  simp[intOf];omega
 have gV:¬ (t:Int) < (n3:Int):=by omega
 obtain rfl:t=n3:=by omega
 have eD:=hid (HW.o _ (dG.o.trans (hb.mono dG.o.size)));have HE:=dF.o;clear hb dG fT bZ fU fV iP gD fY;go_wp2;go_ret;exact Ans.mk rfl eD.o
end Go.Proofs.YtfmndmhjjbeokaaGreatDoor
namespace Go.Proofs.YtfmndmhjjbeokaaGreatDoor
namespace Txt
open Tab
def s4:Nat->Nat
 | 0=>0
 | d+1=>1+4*s4 d
theorem s4_mono{a b:Nat}(h:a<=b):s4 a<=s4 b:=by
 induction b generalizing a with
 | zero=>obtain rfl:a=0:=by omega
         exact Ag _
 | succ b ih =>
  cases a with
  | zero=>exact Cr _
  | succ a=>have:=ih (a:=a) (by omega);simp only[s4];omega
theorem few_sz:∀(f:F),f.ok->(∀ y∈f.flat,y.n<=4)->f.sz<=f.cnt*s4 f.dep
 | .nil,_,_=>by simp[F.sz]
 | .cons x k r,h,hn=>by
  have i1:=few_sz k h.2.2.1 fun y hy=>hn y (by simp[F.flat,hy])
  have i2:=few_sz r h.2.2.2 fun y hy=>hn y (by simp[F.flat,hy])
  have hx:=hn x (by simp[F.flat])
  have hc:k.cnt<=4:=by
   rw[h.2.1]
   unfold kn
   split
   ·omega
   ·split <;> omega
  have m1:s4 k.dep<=s4 (max (k.dep+1) r.dep - 1):=s4_mono (by omega)
  have m2:s4 r.dep<=s4 (max (k.dep+1) r.dep):=s4_mono (by omega)
  simp only[F.sz,F.cnt,F.dep]
  obtain⟨D,hD⟩:∃ D,max (k.dep+1) r.dep=D+1:=⟨max (k.dep+1) r.dep - 1,by omega⟩
  rw[hD] at m1 m2 |-
  rw[Nat.add_sub_cancel] at m1
  have j1:k.cnt*s4 k.dep<=4*s4 D:=Nat.mul_le_mul hc m1
  have j2:r.cnt*s4 r.dep<=r.cnt*s4 (D+1):=Do _ m2
  have j3:s4 (D+1)=1+4*s4 D:=rfl
  rw[Nat.add_mul,Nat.one_mul]
  omega
theorem few_len:∀(f:F),f.ok->(∀ y∈f.flat,y.n<=4)->f.len<=f.cnt*4 ^ f.dep
 | .nil,_,_=>by simp[F.len]
 | .cons x k r,h,hn=>by
  have i1:=few_len k h.2.2.1 fun y hy=>hn y (by simp[F.flat,hy])
  have i2:=few_len r h.2.2.2 fun y hy=>hn y (by simp[F.flat,hy])
  have hx:=hn x (by simp[F.flat])
  have aA:x.n.toNat<=4:=by omega
  simp only[F.len,F.cnt,F.dep]
  obtain⟨D,hD⟩:∃ D,max (k.dep+1) r.dep=D+1:=⟨max (k.dep+1) r.dep - 1,by omega⟩
  rw[hD]
  have m1:4 ^ k.dep<=4 ^ D:=Nat.pow_le_pow_right (by omega) (by omega)
  have m2:4 ^ r.dep<=4 ^ (D+1):=Nat.pow_le_pow_right (by omega) (by omega)
  have m0:1<=4 ^ D:=Nat.pow_pos (by omega)
  have j2:r.cnt*4 ^ r.dep<=r.cnt*4 ^ (D+1):=Do _ m2
  have j3:4 ^ (D+1)=4 ^ D*4:=Nat.pow_succ 4 D
  have j4:F.tick x k.len<=4 ^ D*4:=by
   have hk:=h.2.1
   unfold kn at hk
   unfold F.tick
   split
   ·rename_i h3
    rw[if_pos h3] at hk
    have:k.cnt*4 ^ k.dep<=4*4 ^ D:=Nat.mul_le_mul (by omega) m1
    omega
   ·rename_i h3
    rw[if_neg h3] at hk
    split
    ·rename_i h4
     rw[if_pos h4] at hk
     rw[hk,Nat.one_mul] at i1
     exact Nat.mul_le_mul (Ai i1 m1) aA
    ·omega
  rw[Nat.add_mul,Nat.one_mul]
  omega
theorem few_right{x:Nd}{k:F}(aA:(F.cons x k .nil).ok)(hn:∀ y∈x::k.flat,y.n<=4)(hd:k.dep<=2):k.sz+1<=21/\F.tick x k.len<=64:=by
 have aB:∀ y∈(F.cons x k .nil).flat,y.n<=4:=fun y hy=>hn y (by simpa [F.flat] using hy);have h1:=few_sz _ aA aB;have h2:=few_len _ aA aB;have aC:(F.cons x k .nil).dep=k.dep+1:=by simp[F.dep]
 have m1:s4 (k.dep+1)<=s4 3:=s4_mono (by omega);have m2:4 ^ (k.dep+1)<=4 ^ 3:=Nat.pow_le_pow_right (by omega) (by omega);rw[aC] at h1 h2;simp only[F.cnt,F.sz,F.len] at h1 h2;have e1:s4 3=21:=by decide
 have e2:(4:Nat) ^ 3=64:=by decide
 omega
theorem few_rt{x:Nd}{k:F}{n:Nat}(aA:(F.cons x k .nil).ok)(hn:∀ y∈x::k.flat,y.n<=4)(hd:k.dep<=2)(hl:k.sz+1=n):rt n (k.dep+1) (F.tick x k.len)=0:=by
 have:=few_right aA hn hd;unfold rt;rw[if_neg (by omega),if_neg (by omega),if_neg (by omega)]
def look6(s:List UInt8):Int:=if (valF lim40 s).2=true then ((valF lim40 s).1:Int) else -1
theorem look6_ok(s:List UInt8)(h:0<=look6 s):(valF lim40 s).2=true/\look6 s=((valF lim40 s).1:Int):=by
 unfold look6 at h |-;by_cases e:(valF lim40 s).2=true
 ·rw[if_pos e];exact⟨e,rfl⟩
 rw[if_neg e] at h;omega
theorem nm6{p:Int}(h:0<=p)(h6:p < 6):nmP num6 p=[dg p.toNat]/\look6 (nmP num6 p)=p/\∀ c∈nmP num6 p,st4 c=false:=by
 obtain⟨i,rfl⟩:=Ax h;have hi:i < 6:=by omega
 have e:nmP num6 (i:Int)=numB i:=by
  unfold nmP;rw[if_pos h,Bx,Dg,Sr hi];rfl
 rw[e];refine⟨by rw[Bx];exact numB_low (by omega),?_,?_⟩
 ·unfold look6;rw[valF_num (m:=lim40) (n:=i) (by unfold lim40;omega)];rfl
 rw[numB_low (by omega)];intro c hc;obtain rfl:=Cc.1 hc;have:∀ j:Fin 6,st4 (dg j.1)=false:=by decide
 exact this ⟨i,hi⟩
theorem say6{y:Nd}(hf:fine y=true)(hn:y.n.toNat<=lim40):Say (nmP num6) look6 y:=by
 refine⟨hn,fun hk=>?_⟩;unfold fine at hf;rw[if_pos hk] at hf;simp only[Au,Av] at hf;exact(nm6 hf.2.1 hf.2.2).2
theorem tabD_tx{x:Nd}{k:F}(aA:(F.cons x k .nil).ok)(hn:∀ y∈x::k.flat,y.n.toNat<=lim40)(hd:k.dep+1<=16)(hz:k.sz+1<=128):Qcl (Gq x k)=some (x::k.flat):=by
 have aB:(F.cons x k .nil).flat=x::k.flat:=by simp[F.flat]
 have h:=tableR_tx (nm:=nmP num6) (look:=look6) aA (fun y hy=>say6 (Hh _ aA y hy) (hn y (by rw[aB] at hy;exact hy))) (by simp only[F.dep];omega) (by simp only[F.sz];omega);rw[Ky,aB] at h;have h2:=tableR_S (look_num look6 look6_ok) h;unfold Qcl Gq;rw[h2]
def putX(x y:Nd)(k l:F)(m:Nat):F:=.cons x k (.cons ⟨4,0,1+(m:Int)⟩ (.cons y l .nil) .nil)
theorem put_text(x y:Nd)(k l:F)(m:Nat):Gq ⟨3,0,2⟩ (putX x y k l m)=[115,40]++(Gq x k++([44,114]++(numB (1+m)++([40]++(Gq y l++[41,41]))))):=by
 unfold Gq putX;have e:(1+(m:Int)).toNat=1+m:=by omega
 simp[txN,txX,e]
theorem put_tree{x y:Nd}{k l:F}{m:Nat}(hx:(F.cons x k .nil).ok)(hy:(F.cons y l .nil).ok)(nx:∀ z∈x::k.flat,z.n<=4)(ny:∀ z∈y::l.flat,z.n<=4)(dx:k.dep<=2)(dy:l.dep<=2)(hm:m<=3):
  Qcl (Gq ⟨3,0,2⟩ (putX x y k l m))=some (⟨3,0,2⟩::((x::k.flat)++(⟨4,0,1+(m:Int)⟩::(y::l.flat)))):=by
 have r1:=few_right hx nx dx;have r2:=few_right hy ny dy;have aA:(putX x y k l m).flat=(x::k.flat)++(⟨4,0,1+(m:Int)⟩::(y::l.flat)):=by simp[putX,F.flat]
 have h:=tabD_tx (x:=⟨3,0,2⟩) (k:=putX x y k l m) ⟨by decide,by simp[putX,F.cnt,kn],⟨hx.1,hx.2.1,hx.2.2.1,(Em _ _ _).2 (by omega),by simp[F.cnt,kn],hy,trivial⟩,trivial⟩
  (by
   rw[aA];intro z hz;unfold lim40;rcases Ba.1 hz with rfl | hz
   ·show (2:Int).toNat<=_;omega
   rcases Ay.1 hz with hz | hz
   ·have:=nx z hz;omega
   rcases Ba.1 hz with rfl | hz
   ·dsimp only;omega
   have:=ny z hz;omega)
  (by simp only[putX,F.dep];omega) (by simp only[putX,F.sz];omega)
 rw[h,aA]
theorem nodeT_ne(x:Nd)(k:F):Gq x k≠[]:=by
 unfold Gq txN;split
 ·simp
 split
 ·simp
 split <;> simp
theorem nodeT_len{x:Nd}{k:F}(aA:(F.cons x k .nil).ok)(hn:∀ y∈x::k.flat,y.n<=4)(hd:k.dep<=2):(Gq x k).length<=2100:=by
 have r:=few_right aA hn hd;have h1:=Hh _ aA;have aB:(F.cons x k .nil).flat=x::k.flat:=by simp[F.flat]
 have h:=I8 (nm:=nmP num6) (fun p=>by
  unfold nmP;split
  ·rw[Dg];cases hg:num6[p.toNat]? with
   | none=>exact Cr _
   | some s=>exact Lf s (An hg)
  exact Cr _) (F.cons x k .nil) (fun y hy=>by
  have h2:=fine_one (h1 y hy);have h3:=hn y (by rw[aB] at hy;exact hy);exact⟨by omega,by omega⟩) false
 rw[Ky] at h;simp only[F.sz] at h;unfold Gq;omega
end Txt
end Go.Proofs.YtfmndmhjjbeokaaGreatDoor
namespace Go.Proofs.YtfmndmhjjbeokaaGreatDoor
open Go.RowKit Tab Txt
def Qbi(names W:List (List UInt8))(w:World)(e:Ending)(w':World):Prop:=Below w.heap.size w w'/\∃ x:ChV,e=.returned (.tuple #[cv x,.bool (chanP names W).isSome])/\∀ y,chanP names W=some y->y=x
theorem Zg{names W:List (List UInt8)}(h:W.length≠6):chanP names W=none:=by
 unfold chanP;split
 ·exact absurd rfl h
 rfl
theorem Qcs{names:List (List UInt8)}{w0 w1 w2 w4 w5:List UInt8}:chanP names [w0,w1,w2,[],w4,w5]=none:=by
 unfold chanP;simp
theorem Qco(names:List (List UInt8))(w0 w1 w2 w4 w5:List UInt8)(k:UInt8)(r:List UInt8):chanP names [w0,w1,w2,k::r,w4,w5] =
  if ((((decide (0<=findF names w1) && (decide (0<=findF names w2) && (decide (k=113) || decide (k::r=[115])))) && (if decide (k=113)=true then (valF lim40 r).2 else true)) && (valF lim32 w4).2) && (valF lim40 w5).2)=true then
   some ⟨findF names w1,findF names w2,decide (k=113),(if decide (k=113)=true then ((valF lim40 r).1:Int) else 0),((valF lim32 w4).1:Int),((valF lim40 w5).1:Int)⟩ else none:=by
 have e:chanP names [w0,w1,w2,k::r,w4,w5]=if (decide (0<=findF names w1) && (decide (0<=findF names w2) && ((valF lim32 w4).2 && (valF lim40 w5).2)))=true then
   (if k=113 then (if (valF lim40 r).2=true then some ⟨findF names w1,findF names w2,true,((valF lim40 r).1:Int),((valF lim32 w4).1:Int),((valF lim40 w5).1:Int)⟩ else none)
    else if k=115/\r=[] then some ⟨findF names w1,findF names w2,false,0,((valF lim32 w4).1:Int),((valF lim40 w5).1:Int)⟩ else none) else none:=rfl
 rw[e];clear e;generalize decide (0<=findF names w1)=d1;generalize decide (0<=findF names w2)=d2;generalize (valF lim32 w4).2=d3;generalize (valF lim40 w5).2=d4;by_cases hk:k=113
 ·subst hk;generalize (valF lim40 r).2=d5;cases d1 <;> cases d2 <;> cases d3 <;> cases d4 <;> cases d5 <;> simp
 by_cases hs:k=115/\r=[]
 ·obtain⟨rfl,rfl⟩:=hs;cases d1 <;> cases d2 <;> cases d3 <;> cases d4 <;> simp
 have aA:¬ (k::r=[115]):=fun e=>by injection e with a b;exact hs ⟨a,b⟩
 rw[Ac hk,Ac aA,if_neg hk,if_neg hs];cases d1 <;> cases d2 <;> cases d3 <;> cases d4 <;> simp
theorem Xi{m:Nat}{l:List UInt8}(h:(valF m l).2=true):(valF m l).1<=m:=by
 cases hv:valL m 0 l with
 | none=>rw[Pr hv] at h;cases h
 | some a =>
  rw[Pp hv] at h |-;simp only[Au,Av] at h;exact h.2.1
theorem Zn{n:Nat}(h:n<=4294967295):IntKind.u32.wrap (n:Int)=(n:Int):=by
 simp only[IntKind.wrap,IntKind.bits,IntKind.signed];simp;omega
theorem kw{W:List (List UInt8)}(h:W.length=6):∃ a b c d e f,W=[a,b,c,d,e,f]:=by
 match W,h with
 | [a,b,c,d,e,f],_=>exact⟨a,b,c,d,e,f,rfl⟩
theorem ib{B g:Nat}{w:World}{l:List Value}(h:OwnV 66 6 w B (some ⟨g,0,none⟩) 1 1 l)(v0 v1 v2 v3 v4 v5:Value):
  OwnV 66 6 (((((((w).setCell ⟨g,0,none⟩ (v0)).setCell ⟨g,1,none⟩ (v1)).setCell ⟨g,2,none⟩ (v2)).setCell ⟨g,3,none⟩ (v3)).setCell ⟨g,4,none⟩ (v4)).setCell ⟨g,5,none⟩ (v5)) B (some ⟨g,0,none⟩) 1 1 [v0,v1,v2,v3,v4,v5]:=by
 have hl:l.length=6:=h.1
 match l,hl with
 | [a,b,c,d,e,f],_=>exact(((((h.set 0 v0 (by show 0 < 6;omega)).set 1 v1 (by show 1 < 6;omega)).set 2 v2 (by show 2 < 6;omega)).set 3 v3 (by show 3 < 6;omega)).set 4 v4 (by show 4 < 6;omega)).set 5 v5 (by show 5 < 6;omega)
theorem jw{B g:Nat}{w0 w:World}(h:Below B w0 w)(hg:B<=g)(v0 v1 v2 v3 v4 v5:Value):Below B w0 (((((((w).setCell ⟨g,0,none⟩ (v0)).setCell ⟨g,1,none⟩ (v1)).setCell ⟨g,2,none⟩ (v2)).setCell ⟨g,3,none⟩ (v3)).setCell ⟨g,4,none⟩ (v4)).setCell ⟨g,5,none⟩ (v5)) :=
 (((((h.setCell (p:=⟨g,0,none⟩) hg _).setCell (p:=⟨g,1,none⟩) hg _).setCell (p:=⟨g,2,none⟩) hg _).setCell (p:=⟨g,3,none⟩) hg _).setCell (p:=⟨g,4,none⟩) hg _).setCell (p:=⟨g,5,none⟩) hg _
theorem Qbv{E s B n c g:Nat}{w:World}{A:Option Addr}{l:List Value}(h:OwnV E s w B A n c l)(hp:∀ k,A=some ⟨k,0,none⟩->k≠g)(v0 v1 v2 v3 v4 v5:Value):OwnV E s (((((((w).setCell ⟨g,0,none⟩ (v0)).setCell ⟨g,1,none⟩ (v1)).setCell ⟨g,2,none⟩ (v2)).setCell ⟨g,3,none⟩ (v3)).setCell ⟨g,4,none⟩ (v4)).setCell ⟨g,5,none⟩ (v5)) B A n c l :=
 (((((h.other ⟨g,0,none⟩ _ hp).other ⟨g,1,none⟩ _ hp).other ⟨g,2,none⟩ _ hp).other ⟨g,3,none⟩ _ hp).other ⟨g,4,none⟩ _ hp).other ⟨g,5,none⟩ _ hp
theorem Fx(m:Nat)(hm:m<=1099511627775)(l:List UInt8)(w:World)(hl:l.length<=140737488351232):Calls Tryz.prog 100 #[.string (bsOf l),.int .i64 (m:Int)] w (Ans (.tuple #[.int .i64 ((valF m l).1:Int),.bool (valF m l).2]) w) :=
 (Kk m hm l w hl).mono fun _ _ h=>⟨h.1,by obtain⟨_,k,rfl⟩:=h;exact Below.drewN (Aj _ _) k⟩
structure PchW(W0:World)(L:List Value)(live:Nat->Bool)(a:Act)(w:World):Prop where
 on:Below W0.heap.size W0 w
 un:live 16=true->live 17=false->∃ g,a.eval (.tmp 6)=.pointer (some ⟨g,0,none⟩)/\W0.heap.size<=g/\OwnV 66 6 w W0.heap.size (some ⟨g,0,none⟩) 1 1 [.int .i64 0,.int .i64 0,.bool false,.int .i64 0,.int .u32 0,.int .i64 0]
 at_:live 17=true->∃ g,a.eval (.tmp 6)=.pointer (some ⟨g,0,none⟩)/\W0.heap.size<=g/\OwnV 66 6 w W0.heap.size (some ⟨g,0,none⟩) 1 1 L
theorem PchW.upd{W0:World}{L:List Value}{live:Nat->Bool}{a:Act}{w:World}(h:PchW W0 L live a w)(i:Nat)(d:Tmp)(v:Value)(hi:i≠16:=by decide)(hj:i≠17:=by decide)(hd:d≠6:=by decide):PchW W0 L (Rgs.upd live i) (a.put (some d) v) w:=by
 have e:Rgs.upd live i 16=live 16:=by unfold Rgs.upd;simp[Ne.symm hi]
 have e2:Rgs.upd live i 17=live 17:=by unfold Rgs.upd;simp[Ne.symm hj]
 refine⟨h.on,fun h1 h2=>?_,fun h1=>?_⟩
 ·rw[Reg.eval_other _ _ _ _ hd];exact h.un (e▸h1) (e2▸h2)
 rw[Reg.eval_other _ _ _ _ hd];exact h.at_ (e2▸h1)
theorem PchW.up{W0:World}{L:List Value}{live:Nat->Bool}{a:Act}{w:World}(h:PchW W0 L live a w){i:Nat}{d:Tmp}{v:Value}(hi:i≠16:=by decide)(hj:i≠17:=by decide)(hd:d≠6:=by decide):PchW W0 L (Rgs.upd live i) (a.put (some d) v) w:=h.upd i d v hi hj hd
theorem Rc{w:World}{g:Nat}{v0 v1 v2 v3 v4 v5:Value}(hc:∀ k v,[v0,v1,v2,v3,v4,v5][k]? = some v->w.cell? ⟨g,k,none⟩=some v):(loadVar 66 ⟨g,0,none⟩).run Tryz.prog w=.ok (.agg #[v0,v1,v2,v3,v4,v5]) w:=by
 have e:(isAgg 66).run Tryz.prog w=.ok true w:=by go_simp
 have e2:(sizeOf 66).run Tryz.prog w=.ok 6 w:=by go_simp
 unfold loadVar;rw[Sem.run_bind,e,At];simp only[if_true];rw[Sem.run_bind,e2,At,Sem.run_bind];have:=run_loadCells_list (P:=Tryz.prog) (w:=w) ⟨g,0,none⟩ [v0,v1,v2,v3,v4,v5] (fun j v hj=>by
  rw[Jh];exact hc j v hj)
 simp only[Ad,Bh] at this;rw[this,At];rfl
theorem results_chan{fn:Func}{p q:Tmp}(h:fn.results=#[.cell p 66,.tmp q]){aA:Array Value}{w:World}{B g:Nat}{v0 v1 v2 v3 v4 v5:Value}(hp:aA.getD p undef=.pointer (some ⟨g,0,none⟩))(ho:OwnV 66 6 w B (some ⟨g,0,none⟩) 1 1 [v0,v1,v2,v3,v4,v5]):
  (results fn aA).run Tryz.prog w=.ok (.tuple #[.agg #[v0,v1,v2,v3,v4,v5],aA.getD q undef]) w:=by
 have e:(asAddr (.pointer (some ⟨g,0,none⟩))).run Tryz.prog w=.ok ⟨g,0,none⟩ w:=rfl;have hl:(loadVar 66 ⟨g,0,none⟩).run Tryz.prog w=.ok (.agg #[v0,v1,v2,v3,v4,v5]) w:=Rc fun k v hk=>by
  have aB:=(Af.1 hk).1;have h1:=Ah ho k aB;have h2:=(Af.1 hk).2
  first | exact h1.trans (congrArg some h2) | (rw[h1];simp[<- h2])
 rw[results_cell_tmp h,hp,e,At,hl,At]
theorem Un(AW:Option Addr)(nW cW:Nat)(W:List (List UInt8))(AN:Option Addr)(nN cN:Nat)(N:List (List UInt8))(w:World)(hW:RdB sc w w.heap.size AW nW W)(hN:RdB sc w w.heap.size AN nN N)(dS:nW<=1048576)(dT:nN<=1048576)(hL:∀ x∈W,x.length<=1048576):
  Calls Tryz.prog 67 #[.slice AW nW cW,.slice AN nN cN] w (Qbi N W w):=by
 have HW:=hid hW;have HN:=hid hN;have HL:=hid hL;have aV:=hW.len;have aX:=bl1 w (.cells #[.int .i64 0,.int .i64 0,.bool false,.int .i64 0,.int .u32 0,.int .i64 0] 66);have aI:=D7 w 66 6 w.heap.size #[.int .i64 0,.int .i64 0,.bool false,.int .i64 0,.int .u32 0,.int .i64 0] 1 rfl (Ag _) (by unfold maxLen;omega);clear hW hN hL;go_in;go_upto_region 1 with fail;generalize w.alloc (.cells #[.int .i64 0,.int .i64 0,.bool false,.int .i64 0,.int .u32 0,.int .i64 0] 66)=w1 at aX aI |-;have aA:=hid aI;have aP:=hid aX;generalize cH:w.heap.size=gr at aA |-;have cA:=hid cH;clear aX aI cH;by_cases h6:nW=6
 ·subst h6;obtain⟨x0,x1,x2,x3,x4,x5,rfl⟩:=kw aV;have bP:=HW.o.on aP.o;obtain⟨ad,_,rfl,dK,_,_,_⟩:=bP.at_ Fl (by omega) (show 0 < 6 by omega);have hc:∀(i:Nat) (x:List UInt8),0 < i->i < 6->[x0,x1,x2,x3,x4,x5][i]? = some x->w1.cell? ⟨ad.block,ad.off+i,none⟩=some (.string (bsOf x)):=fun i x h0 hi hx=>by
   obtain⟨dO,y,hA,_,hy,c0,_⟩:=bP.at_ Fl (by omega) hi;obtain rfl:ad=dO:=by injection hA
   rw[hx] at hy;injection hy with hy;subst hy;have:=c0 _ rfl;rw[Cj] at this;have e:ad.add i=⟨ad.block,ad.off+i,none⟩:=by unfold Addr.add;rw[if_neg (by omega)]
   rwa [e] at this
  have HC:=hid fun V (hv:Below w1.heap.size w1 V) i x h0 hi hx=>(hv.cell (Bj _ _ (hc i x h0 hi hx))).trans (hc i x h0 hi hx);have bY:Hd (x1.length<=1048576/\x2.length<=1048576/\x3.length<=1048576/\x4.length<=1048576/\x5.length<=1048576):=hid ⟨HL.o _ (by simp),HL.o _ (by simp),HL.o _ (by simp),HL.o _ (by simp),HL.o _ (by simp)⟩;clear hc bP dK aV HL;cases x3 with
  | nil =>
   have i0:((bsOf []).toList == (⟨#[]⟩:ByteArray).toList)=true:=Et (Ae (show bsOf []=(⟨#[]⟩:ByteArray) from rfl));have i1:(bsOf []).toList.isEmpty=true:=by simpa using i0
   have c3:=HC.o w1 (Aj _ _) 3 [] (by omega) (by omega) rfl;clear i0;have r0:=Ah aA.o 0 (by omega);have s0:=Aq aA.o 0;have r1:=Ah aA.o 1 (by omega);have s1:=Aq aA.o 1;have r2:=Ah aA.o 2 (by omega);have s2:=Aq aA.o 2;have r3:=Ah aA.o 3 (by omega);have s3:=Aq aA.o 3;have r4:=Ah aA.o 4 (by omega);have s4:=Aq aA.o 4;have r5:=Ah aA.o 5 (by omega);have s5:=Aq aA.o 5;go_wp2_with fail;have h9:=ib aA.o (.int .i64 0) (.int .i64 0) (.bool false) (.int .i64 0) (.int .u32 0) (.int .i64 0);have aH:=hid (jw aP.o (g:=gr) (Nat.le_of_eq cA.o) (.int .i64 0) (.int .i64 0) (.bool false) (.int .i64 0) (.int .u32 0) (.int .i64 0));clear r0 s0 r1 s1 r2 s2 r3 s3 r4 s4 r5 s5;generalize (((((((w1).setCell ⟨gr,0,none⟩ (.int .i64 0)).setCell ⟨gr,1,none⟩ (.int .i64 0)).setCell ⟨gr,2,none⟩ (.bool false)).setCell ⟨gr,3,none⟩ (.int .i64 0)).setCell ⟨gr,4,none⟩ (.int .u32 0)).setCell ⟨gr,5,none⟩ (.int .i64 0))=w9 at h9 aH |-;refine Be (results_chan rfl rfl h9) rfl ?_;exact⟨aH.o,⟨0,0,false,0,0,0⟩,by rw[Qcs];rfl,fun y hy=>by rw[Qcs] at hy;cases hy⟩
  | cons k r =>
   have i0:((bsOf (k::r)).toList == (⟨#[]⟩:ByteArray).toList)=false:=Et (Ac fun e=>by have:=congrArg ByteArray.size e;cases this);have i1:(bsOf (k::r)).toList.isEmpty=false:=by simpa using i0
   clear i0;have aN:=hid fun V (hv:Below w1.heap.size w1 V)=>HC.o V hv 3 (k::r) (by omega) (by omega) rfl;obtain⟨kb,bQ⟩:∃ b:Nat,b=k.toNat:=⟨_,rfl⟩;obtain⟨q,hq⟩:∃ q,q=decide (k=113):=⟨_,rfl⟩;have bZ:Hd (∀ W,(Instr.index 9 (.string (bsOf (k::r))) (.int .i64 0)).run Tryz.prog W=.ok (.int .u8 (kb:Int)) W):=hid (by rw[bQ];exact sidx (l:=k::r) (i:=0) (c:=k) rfl);have dE:Hd (((kb:Int) == 113)=q):=hid (by
    rw[hq,bQ,Bool.eq_iff_iff,Ck,Av];constructor
    ·intro e;exact Cz.1 (by show k.toNat=113;omega)
    rintro rfl;rfl)
   have aK:((bsOf (k::r)).toList == (⟨#[115]⟩:ByteArray).toList)=decide (k::r=[115]):=by
    rw[<- beq_toListBytes,eh,Bool.eq_iff_iff,Av,Av];exact⟨fun e=>Lr (m:=[115]) e,fun e=>by rw[e];rfl⟩
   rw[show (⟨#[115]⟩:ByteArray).toList=[115] by first | rfl | decide | simp] at aK;have aF:=hid aK;clear aK;have bW:Hd ((bsOf (k::r)).size=r.length+1):=hid rfl;have cC:Hd ((bsOf (k::r)).extract 1 (r.length+1)=bsOf r):=hid (bs_from (k::r) 1 (r.length+1) rfl);have HQ:=hid hq;have dQ:Hd (r.length<=1048576):=hid (by have:=bY.o.2.2.1;rw[Ad] at this;omega);have aC:=hid (Qco N x0 x1 x2 x4 x5 k r);obtain⟨f1,cJ⟩:∃ f,f=findF N x1:=⟨_,rfl⟩;obtain⟨f2,cI⟩:∃ f,f=findF N x2:=⟨_,rfl⟩;have cE:=hid fun V (hv:Below w.heap.size w V)=>L7 AN nN cN N x1 V (HN.o.on hv) (by omega);have cD:=hid fun V (hv:Below w.heap.size w V)=>L7 AN nN cN N x2 V (HN.o.on hv) (by omega);rw[<- cJ] at cE aC;rw[<- cI] at cD aC;rw[<- hq] at aC;obtain⟨cY,aJ⟩:∃ c,c=chanP N [x0,x1,x2,k::r,x4,x5]:=⟨_,rfl⟩;rw[<- aJ] at aC;have bA:=hid aJ;clear aJ;obtain⟨dG,aU⟩:∃ b,b=decide (k::r=[115]):=⟨_,rfl⟩;rw[<- aU] at aC aF;have c3:=aN.o w1 (Aj _ _);generalize bsOf (k::r)=dF at bZ aF bW cC i1 aN c3 |-;clear bQ hq cJ cI aU;have aZ:=aP;obtain⟨W1,bH⟩:∃ v,v=w1:=⟨_,rfl⟩;rw[<- bH] at HC aN aZ;go_upto_region 3 with fail;rw[<- bH];rw[<- bH] at aA aP;clear bH c3 i1;refine Rgs.region (by kernel_rfl) (by kernel_rfl) (fun(dH:Nat) (vl:Value) (_:World)=>match dH with | 0=>vl=.slice AN nN cN | 1=>vl=.slice (some ad) 6 cW | 2=>vl=.pointer (some ⟨ad.block,ad.off+1,none⟩) | 3=>vl=.string (bsOf (x1)) | 4=>vl=.int .i64 f1 | 5=>vl=.slice AN nN cN | 6=>vl=.slice (some ad) 6 cW | 7=>vl=.pointer (some ⟨ad.block,ad.off+2,none⟩) | 8=>vl=.string (bsOf (x2)) | 9=>vl=.int .i64 f2 | 10=>vl=.slice (some ad) 6 cW | 11=>vl=.pointer (some ⟨ad.block,ad.off+3,none⟩) | 12=>vl=.string dF | 13=>vl=.int .u8 (kb:Int) | 14=>vl=.bool q | 15=>vl=.agg #[.int .i64 f1,.int .i64 f2,.bool q,.int .i64 0,.int .u32 0,.int .i64 0] | _=>True) (PchW W1 [.int .i64 f1,.int .i64 f2,.bool q,.int .i64 0,.int .u32 0,.int .i64 0]) ⟨(Aj _ _).drew,(fun h=>by cases h),(fun h=>by cases h)⟩ (Rgs.steps_of ?_) ?_
   ·refine⟨?_,?_,?_,?_,?_,?_,?_,?_,?_,?_,?_,?_,?_,?_,?_,?_,?_,?_,trivial⟩<;>intro a w1 live S E D C h0 hk hW
    ·have e1:a.eval _=.slice AN nN cN:=E 1 rfl;exact Dw hW.up
    ·have e0:a.eval _=.slice (some ad) 6 cW:=E 0 rfl;exact Dw hW.up
    ·have d1:_=_:=rgsDe D 1;exact Dw hW.up
    ·have d2:_=_:=rgsDe D 2;have cK:=HC.o w1 hW.on 1 x1 (by omega) (by omega) rfl;exact Dw hW.up
    ·have d0:_=_:=rgsDe D 0;have d3:_=_:=rgsDe D 3;refine Ei 101 #[.slice AN nN cN,.string (bsOf x1)] ?_;refine(cE.o w1 (aZ.o.trans (hW.on.mono aZ.o.size))).mono ?_;rintro e w5⟨rfl,bO⟩;subst bO;exact⟨_,rfl,rfl,(hW.upd 4 28 _),fun jq vq _ hq=>hq⟩
    ·have e1:a.eval _=.slice AN nN cN:=E 1 rfl;exact Dw hW.up
    ·have e0:a.eval _=.slice (some ad) 6 cW:=E 0 rfl;exact Dw hW.up
    ·have d6:_=_:=rgsDe D 6;exact Dw hW.up
    ·have d7:_=_:=rgsDe D 7;have cK:=HC.o w1 hW.on 2 x2 (by omega) (by omega) rfl;exact Dw hW.up
    ·have d5:_=_:=rgsDe D 5;have d8:_=_:=rgsDe D 8;refine Ei 101 #[.slice AN nN cN,.string (bsOf x2)] ?_;refine(cD.o w1 (aZ.o.trans (hW.on.mono aZ.o.size))).mono ?_;rintro e w5⟨rfl,bO⟩;subst bO;exact⟨_,rfl,rfl,(hW.upd 9 33 _),fun jq vq _ hq=>hq⟩
    ·have e0:a.eval _=.slice (some ad) 6 cW:=E 0 rfl;exact Dw hW.up
    ·have eD:_=_:=rgsDe D 10;exact Dw hW.up
    ·have eC:_=_:=rgsDe D 11;have cK:=aN.o w1 hW.on;exact Dw hW.up
    ·have d12:_=_:=rgsDe D 12;have dV:=bZ.o;exact Dw hW.up
    ·have d13:_=_:=rgsDe D 13;have dU:=dE.o;exact Dw hW.up
    ·have d4:_=_:=rgsDe D 4;have d9:_=_:=rgsDe D 9;have eB:_=_:=rgsDe D 14;have dX:Tryz.prog.built 66 [(0,.int .i64 f1),(1,.int .i64 f2),(2,.bool q)]=some #[.int .i64 f1,.int .i64 f2,.bool q,.int .i64 0,.int .u32 0,.int .i64 0]:=by rfl
     exact Dw hW.up
    ·have dI:=D3 C h0 [] 17 rfl;have bS:=bl1 w1 (.cells #[.int .i64 0,.int .i64 0,.bool false,.int .i64 0,.int .u32 0,.int .i64 0] 66);refine Fd (.pointer (some ⟨w1.heap.size,0,none⟩)) (w1.alloc (.cells #[.int .i64 0,.int .i64 0,.bool false,.int .i64 0,.int .u32 0,.int .i64 0] 66)) trivial ⟨hW.on.trans (bS.mono hW.on.size),fun _ _=>⟨w1.heap.size,Reg.eval_same _ _ _ (by rw[S];exact(by decide:6 < 101)),hW.on.size,D7 w1 66 6 _ #[.int .i64 0,.int .i64 0,.bool false,.int .i64 0,.int .u32 0,.int .i64 0] 1 rfl hW.on.size (by unfold maxLen;omega)⟩,fun e=>?_⟩ (fun j v _ h=>h);have e:(17 == 16 || live 17)=true:=e;rw[dI] at e;cases e
    have dN:_=_:=rgsDe D 15;obtain⟨g,cX,hg,hv⟩:=hW.un (hk 16 rfl) h0;have dJ:=ib hv (.int .i64 f1) (.int .i64 f2) (.bool q) (.int .i64 0) (.int .u32 0) (.int .i64 0);have aX:=jw hW.on hg (.int .i64 f1) (.int .i64 f2) (.bool q) (.int .i64 0) (.int .u32 0) (.int .i64 0);have z0:=Ah hv 0 (by omega);have f0:=Aq hv 0;have z1:=Ah hv 1 (by omega);have dM:=Aq hv 1;have z2:=Ah hv 2 (by omega);have dL:=Aq hv 2;have z3:=Ah hv 3 (by omega);have f3:=Aq hv 3;have z4:=Ah hv 4 (by omega);have f4:=Aq hv 4;have z5:=Ah hv 5 (by omega);have f5:=Aq hv 5;refine Jc (((((((w1).setCell ⟨g,0,none⟩ (.int .i64 f1)).setCell ⟨g,1,none⟩ (.int .i64 f2)).setCell ⟨g,2,none⟩ (.bool q)).setCell ⟨g,3,none⟩ (.int .i64 0)).setCell ⟨g,4,none⟩ (.int .u32 0)).setCell ⟨g,5,none⟩ (.int .i64 0)) trivial ⟨aX,fun _ e=>absurd e (by rw[Rgs.upd_self];decide),fun _=>⟨g,cX,hg,dJ⟩⟩ (fun j v _ h=>h) ?_;have c:=Reg.consts a;generalize a.eval=ρ at *;simp[execOp,go_sem,c.1,c.2,dN,cX,z0,z1,z2,z3,z4,z5,f0,dM,dL,f3,f4,f5]
   intro a w3 live hs hd E D Hl hW;obtain⟨gx,ea,cG,hv⟩:=hW.at_ (Hl 17 (by decide));rw[Rgs.act_ws a _ _ hs hd E [24,25,26,27,28,29,30,31,32,33,34,35,36,37,38,39,6] (by kernel_rfl)];simp only[List.foldl,Bg,Bv,Bp,ea];have HX:=hid hv;have aM:=hid hW.on;have bL:=hid cG;clear E D Hl hW ea hv cG;generalize a.eval=ρ;clear a hs hd;have aL:=hid (aA.o.below rfl aM.o);obtain⟨BB,cQ⟩:∃ b,b=gr:=⟨_,rfl⟩;have aL:Hd (OwnV 66 6 w3 BB (some ⟨gr,0,none⟩) 1 1 [.int .i64 0,.int .i64 0,.bool false,.int .i64 0,.int .u32 0,.int .i64 0]):=by rw[cQ];exact aL
   have dD:Hd (gr < gx):=hid (by have h1:=(aA.o.obk_ge (b:=gr) rfl).2;have h2:=bL.o;omega);clear cQ aA cE cD bZ dE;obtain⟨bD,aQ⟩:∃ b,b=(decide (0<=f1) && (decide (0<=f2) && (q || dG))):=⟨_,rfl⟩;rw[<- aQ] at aC;have c3:=aN.o w3 aM.o;have z0:=Ah HX.o 0 (by omega);have z1:=Ah HX.o 1 (by omega);have z2:=Ah HX.o 2 (by omega);go_upto_region 4 with fail;go_cut [7] from 40 to 57 (fun c wx=>c=.bool bD/\OwnV 66 6 wx W1.heap.size (some ⟨gx,0,none⟩) 1 1 [.int .i64 f1,.int .i64 f2,.bool q,.int .i64 0,.int .u32 0,.int .i64 0]/\OwnV 66 6 wx BB (some ⟨gr,0,none⟩) 1 1 [.int .i64 0,.int .i64 0,.bool false,.int .i64 0,.int .u32 0,.int .i64 0]/\Below W1.heap.size W1 wx)
   case first =>
    by_cases h1:0<=f1
    ·by_cases h2:0<=f2
     ·cases q with
      | true =>
       go_wp2_with fail;go_meet
       case rel=>exact⟨by rw[aQ,Ae h1,Ae h2];rfl,HX.o,aL.o,aM.o⟩
      | false =>
       have h5:=aF.o;go_wp2_with fail;go_meet
       case rel=>exact⟨by rw[aQ,Ae h1,Ae h2,<- aF.o];rfl,HX.o,aL.o,aM.o⟩
     have dY:f2 < 0:=by omega
     go_wp2_with fail;go_meet
     case rel=>exact⟨by rw[aQ,Ae h1,Ac (show ¬ 0<=f2 by omega)];rfl,HX.o,aL.o,aM.o⟩
    have dZ:f1 < 0:=by omega
    go_wp2_with fail;go_meet
    case rel=>exact⟨by rw[aQ,Ac (show ¬ 0<=f1 by omega)];rfl,HX.o,aL.o,aM.o⟩
   obtain⟨rfl,hX,hR,hB⟩:=hcut;have bJ:=hid hX;have bX:=hid hR;have bC:=hid hB;clear hX hR hB HX aL aM z0 z1 z2 c3 aQ aF;have bK:=hid fun V=>Fx lim40 (Ag _) r V (by have:=dQ.o;omega);generalize valF lim40 r=VR at bK aC;obtain⟨rv,rb⟩:=VR;dsimp only at bK aC;obtain⟨aT,aD⟩:∃ b,b=(bD && (if q=true then rb else true)):=⟨_,rfl⟩;obtain⟨cap,aE⟩:∃ c:Int,c=(if q=true then (rv:Int) else 0):=⟨_,rfl⟩;rw[<- aD,<- aE] at aC;have z2:=Ah bJ.o 2 (by omega);have c3:=aN.o wc bC.o;go_upto_if 59 with fail;go_cut [7,59] from 60 to 73 (fun c c2 wx=>c=.bool aT/\OwnV 66 6 wx W1.heap.size (some ⟨gx,0,none⟩) 1 1 [.int .i64 f1,.int .i64 f2,.bool q,.int .i64 cap,.int .u32 0,.int .i64 0]/\OwnV 66 6 wx BB (some ⟨gr,0,none⟩) 1 1 [.int .i64 0,.int .i64 0,.bool false,.int .i64 0,.int .u32 0,.int .i64 0]/\Below W1.heap.size W1 wx)
   case first =>
    cases q with
    | true =>
     have dR:=bW.o;have dW:=cC.o;go_wp2_with fail;refine(bK.o wc).mono ?_;rintro e w5⟨rfl,bR⟩;have bG:=bJ.o.below rfl bR;have cP:=bX.o.below rfl bR;have cV:=bC.o.trans (bR.mono bC.o.size);have cL:=bG.set 3 (.int .i64 (rv:Int)) (by show 3 < 6;omega);have cO:=cP.other ⟨gx,3,none⟩ (.int .i64 (rv:Int)) (fun k hk=>by injection hk with hk;injection hk with hk;have:=dD.o;show k≠gx;omega);have cU:=cV.setCell (p:=⟨gx,3,none⟩) bL.o (.int .i64 (rv:Int));have y3:=Ah bG 3 (by omega);have t3:=Aq bG 3;have aY:=hid cL;have bB:=hid cO;have aO:=hid cU;clear bG cP cV cL cO cU c3 z2;cases bD with
     | true =>
      go_wp2_with fail;go_meet
      case rel=>exact⟨by rw[aD];rfl,by rw[aE];exact aY.o,bB.o,aO.o⟩
     | false =>
      go_wp2_with fail;go_meet
      case rel=>exact⟨by rw[aD];rfl,by rw[aE];exact aY.o,bB.o,aO.o⟩
    | false =>
     go_wp2_with fail;go_meet
     case rel=>exact⟨by rw[aD];cases bD <;> rfl,by rw[aE];exact bJ.o,bX.o,bC.o⟩
   obtain⟨rfl,hX,hR,hB⟩:=hcut;have cZ:=hid hX;have dC:=hid hR;have bM:=hid hB;clear hX hR hB bJ bX bC z2 c3 aD aE bK bW cC aN;have bV:=hid fun V=>Fx lim32 (by decide) x4 V (by have:=bY.o;omega);have bU:=hid fun V=>Fx lim40 (Ag _) x5 V (by have:=bY.o;omega);have HM:=hid fun h=>Xi (m:=lim32) (l:=x4) h;generalize valF lim32 x4=V4 at bV aC HM;generalize valF lim40 x5=V5 at bU aC;obtain⟨m,b1⟩:=V4;obtain⟨la,b2⟩:=V5;dsimp only at bV bU aC HM;have c4:=HC.o wc bM.o 4 x4 (by omega) (by omega) rfl;go_wp2_with fail;refine(bV.o wc).mono ?_;rintro e w6⟨rfl,bF⟩;have aY:=hid (cZ.o.below rfl bF);have bB:=hid (dC.o.below rfl bF);have aO:=hid (bM.o.trans (bF.mono bM.o.size));have c5:=HC.o w6 aO.o 5 x5 (by omega) (by omega) rfl;clear bF c4 cZ dC bM;go_wp2_with fail;refine(bU.o w6).mono ?_;rintro e w7⟨rfl,bE⟩;have aR:=aY.o.below rfl bE;have cM:=bB.o.below rfl bE;have cR:=aO.o.trans (bE.mono aO.o.size);have y4:=Ah aR 4 (by omega);have t4:=Aq aR 4;have y5:=Ah aR 5 (by omega);have t5:=Aq aR 5;have cF:∀ k,some (⟨gr,0,none⟩:Addr)=some ⟨k,0,none⟩->k≠gx:=fun k hk=>by injection hk with hk;injection hk with hk;have:=dD.o;omega
   have aG:=(aR.set 4 (.int .u32 (IntKind.u32.wrap (m:Int))) (by show 4 < 6;omega)).set 5 (.int .i64 (la:Int)) (by show 5 < 6;omega);have aB:=(cM.other ⟨gx,4,none⟩ (.int .u32 (IntKind.u32.wrap (m:Int))) cF).other ⟨gx,5,none⟩ (.int .i64 (la:Int)) cF;have bI:=(cR.setCell (p:=⟨gx,4,none⟩) bL.o (.int .u32 (IntKind.u32.wrap (m:Int)))).setCell (p:=⟨gx,5,none⟩) bL.o (.int .i64 (la:Int));clear aR cM cR bE c5 aY bB aO HC;generalize bN:IntKind.u32.wrap (m:Int)=wm at aG aB bI;go_upto_region 11 with fail
   try rw[bN]
   clear y4 t4 y5 t5;generalize (w7.setCell ⟨gx,4,none⟩ (.int .u32 wm)).setCell ⟨gx,5,none⟩ (.int .i64 (la:Int))=w8 at aG aB bI |-;have y0:=Ah aG 0 (by omega);have y1:=Ah aG 1 (by omega);have y2:=Ah aG 2 (by omega);have y3:=Ah aG 3 (by omega);have y4:=Ah aG 4 (by omega);have y5:=Ah aG 5 (by omega);have r0:=Ah aB 0 (by omega);have s0:=Aq aB 0;have r1:=Ah aB 1 (by omega);have s1:=Aq aB 1;have r2:=Ah aB 2 (by omega);have s2:=Aq aB 2;have r3:=Ah aB 3 (by omega);have s3:=Aq aB 3;have r4:=Ah aB 4 (by omega);have s4:=Aq aB 4;have r5:=Ah aB 5 (by omega);have s5:=Aq aB 5;have h9:=ib aB (.int .i64 f1) (.int .i64 f2) (.bool q) (.int .i64 cap) (.int .u32 wm) (.int .i64 (la:Int));have aH:=hid (jw (B:=w.heap.size) (aP.o.trans (bI.mono aP.o.size)) (g:=gr) (Nat.le_of_eq cA.o) (.int .i64 f1) (.int .i64 f2) (.bool q) (.int .i64 cap) (.int .u32 wm) (.int .i64 (la:Int)));have dP:=hid bN;clear aG aB bI bN;have dB:Hd ((.bool cY.isSome:Value)=.bool ((aT && b1) && b2)/\∀ y,cY=some y->y=⟨f1,f2,q,cap,wm,(la:Int)⟩):=hid (by
    rw[aC.o];cases bT:((aT && b1) && b2) with
    | true =>
     rw[if_pos rfl];refine⟨rfl,fun y hy=>?_⟩;injection hy with hy;have bS:b1=true:=by revert bT;cases b1 <;> cases aT <;> simp
     rw[<- hy,<- dP.o,Zn (HM.o bS)]
    | false =>
     rw[if_neg (by decide)];exact⟨rfl,fun y hy=>by cases hy⟩)
   clear aC HM;cases aT <;> cases b1 <;> cases b2
   all_goals
    go_wp2_with fail;clear y0 y1 y2 y3 y4 y5 r0 r1 r2 r3 r4 r5 s0 s1 s2 s3 s4 s5;generalize ((((((w8).setCell ⟨gr,0,none⟩ (.int .i64 f1)).setCell ⟨gr,1,none⟩ (.int .i64 f2)).setCell ⟨gr,2,none⟩ (.bool q)).setCell ⟨gr,3,none⟩ (.int .i64 cap)).setCell ⟨gr,4,none⟩ (.int .u32 wm)).setCell ⟨gr,5,none⟩ (.int .i64 (la:Int))=w9 at h9 aH |-;refine Be (results_chan rfl rfl h9) rfl ?_;exact⟨aH.o,⟨f1,f2,q,cap,wm,(la:Int)⟩,by rw[<- bA.o,dB.o.1];rfl,by rw[<- bA.o];exact dB.o.2⟩
 have i1:((nW:Int) != 6)=true:=Bz.2 (by omega);have i2:((nW:Int) == 6)=false:=Ak.2 (by omega);have dA:=hid (Zg (names:=N) (W:=W) (by omega));have r0:=Ah aA.o 0 (by omega);have s0:=Aq aA.o 0;have r1:=Ah aA.o 1 (by omega);have s1:=Aq aA.o 1;have r2:=Ah aA.o 2 (by omega);have s2:=Aq aA.o 2;have r3:=Ah aA.o 3 (by omega);have s3:=Aq aA.o 3;have r4:=Ah aA.o 4 (by omega);have s4:=Aq aA.o 4;have r5:=Ah aA.o 5 (by omega);have s5:=Aq aA.o 5;go_wp2_with fail;have h9:=ib aA.o (.int .i64 0) (.int .i64 0) (.bool false) (.int .i64 0) (.int .u32 0) (.int .i64 0);have aH:=hid (jw aP.o (g:=gr) (Nat.le_of_eq cA.o) (.int .i64 0) (.int .i64 0) (.bool false) (.int .i64 0) (.int .u32 0) (.int .i64 0));clear r0 s0 r1 s1 r2 s2 r3 s3 r4 s4 r5 s5;generalize (((((((w1).setCell ⟨gr,0,none⟩ (.int .i64 0)).setCell ⟨gr,1,none⟩ (.int .i64 0)).setCell ⟨gr,2,none⟩ (.bool false)).setCell ⟨gr,3,none⟩ (.int .i64 0)).setCell ⟨gr,4,none⟩ (.int .u32 0)).setCell ⟨gr,5,none⟩ (.int .i64 0))=w9 at h9 aH |-;refine Be (results_chan rfl rfl h9) rfl ?_;exact⟨aH.o,⟨0,0,false,0,0,0⟩,by rw[dA.o];rfl,fun y hy=>by rw[dA.o] at hy;cases hy⟩
def Ec(y:Pq):Pq:=(⟨y.1.name,y.1.bud,y.1.per,y.1.sched,y.1.stop,none,y.2.length,y.2.length,y.1.h0,y.1.h1,y.1.h2,y.1.h3,y.1.h4⟩,y.2)
theorem Gr(P:List Pq):namesP (P.map Ec)=namesP P:=by
 unfold namesP;rw[List.map_map];rfl
theorem Hf{z:Int}(h:0<=z)(m:Nat)(h2:z<=m):valF m (numB z.toNat)=(z.toNat,true):=valF_num (by omega)
theorem Yd{q:Int×Int}(h:Fm q=true):procP (procT q)=some q:=by
 unfold Fm at h;simp only[Au,Av] at h;have e:splitF 58 (procT q)=[numB q.1.toNat,numB q.2.toNat]:=by
  unfold procT;rw[split_at _ (num_ne (b:=58) (.inr (by decide))),split_one (num_ne (b:=58) (.inr (by decide)))]
 unfold procP;rw[e];dsimp only;rw[Hf (by omega) lim40 (by unfold lim40;omega),Hf (by omega) lim40 (by unfold lim40;omega)];refine(if_pos rfl).trans ?_;obtain⟨a,b⟩:=q;dsimp only at h |-;rw[Dj (by omega),Dj (by omega)]
theorem N3:∀(l:List (Int×Int)),(∀ q∈l,Fm q=true)->procsP (l.map procT)=some l
 | [],_=>rfl
 | q::l,h=>by
  have h1:=Yd (h q (by simp))
  have h2:=N3 l fun x hx=>h x (by simp[hx])
  rw[Cp]
  unfold procsP
  rw[h1,h2]
  rfl
theorem Qh(a b:Bool):flagP (flagT a b)=some (a,b):=by cases a <;> cases b <;> rfl
theorem Jj{z:Int}(h:0<=z/\z<=2):∃ c:UInt8,numB z.toNat=[c]/\c.toNat=48+z.toNat/\48<=c.toNat/\c.toNat<=50:=by
 rcases(by omega:z=0\/z=1\/z=2) with rfl | rfl | rfl
 ·exact⟨48,by decide,by decide,by decide,by decide⟩
 ·exact⟨49,by decide,by decide,by decide,by decide⟩
 exact⟨50,by decide,by decide,by decide,by decide⟩
theorem Yx{x:PtV}(h:∀ j,0<=hv5 x j/\hv5 x j<=2):healP (healT x)=some (x.h0,x.h1,x.h2,x.h3,x.h4):=by
 have i0:0<=x.h0/\x.h0<=2:=h 0;have i1:0<=x.h1/\x.h1<=2:=h 1;have i2:0<=x.h2/\x.h2<=2:=h 2;have i3:0<=x.h3/\x.h3<=2:=h 3;have i4:0<=x.h4/\x.h4<=2:=h 4;obtain⟨c0,e0,f0,a0⟩:=Jj i0;obtain⟨c1,e1,f1,a1⟩:=Jj i1;obtain⟨c2,e2,f2,a2⟩:=Jj i2;obtain⟨c3,e3,f3,a3⟩:=Jj i3;obtain⟨c4,e4,f4,a4⟩:=Jj i4;unfold healT;rw[e0,e1,e2,e3,e4];show healP [c0,c1,c2,c3,c4]=_;unfold healP;dsimp only;rw[Ae a0,Ae a1,Ae a2,Ae a3,Ae a4];refine(if_pos rfl).trans ?_;have k0:(c0.toNat:Int) - 48=x.h0:=by omega
 have k1:(c1.toNat:Int) - 48=x.h1:=by omega
 have k2:(c2.toNat:Int) - 48=x.h2:=by omega
 have k3:(c3.toNat:Int) - 48=x.h3:=by omega
 have k4:(c4.toNat:Int) - 48=x.h4:=by omega
 rw[k0,k1,k2,k3,k4]
theorem Wk{q:Int×Int}{b:UInt8}(hb:b.toNat < 48):b ∉ procT q:=by
 unfold procT;intro hm;rcases Ay.1 hm with h | h
 ·exact num_ne (.inl hb) h
 rcases Ba.1 h with h | h
 ·rw[h] at hb;exact absurd hb (by decide)
 exact num_ne (.inl hb) h
theorem Yg{y:Pq}(h:Ie y)(hl:y.2≠[]):partP (partW y)=some (Ec y):=by
 have e1:splitF 44 (joinB 44 (y.2.map procT))=y.2.map procT:=split_join (by simpa using hl) fun w hw=>by
  obtain⟨q,_,rfl⟩:=By.1 hw;exact Wk (by decide)
 unfold partW partP;dsimp only;rw[Hf h.bud.1 lim40 (by have:=h.bud;unfold lim40;omega),Hf h.per.1 lim40 (by have:=h.per;unfold lim40;omega),e1,N3 _ h.pr,Qh,Yx h.hl];have hn:nameF (bsOf (toL y.1.name))=true:=h.name;rw[hn];refine(if_pos rfl).trans ?_;dsimp only;rw[Dj h.bud.1,Dj h.per.1];rfl
theorem Gz{b c:UInt8}(aA:b≠c):∀ {l:List (List UInt8)},(∀ x∈l,b ∉ x)->b ∉ joinB c l
 | [],_=>by simp[joinB]
 | [x],h=>h x (by simp)
 | x::y::l,h=>by
  show b ∉ x++c::joinB c (y::l)
  intro hm
  rcases Ay.1 hm with h1 | h1
  ·exact h x (by simp) h1
  ·rcases Ba.1 h1 with h2 | h2
   ·exact aA h2
   ·exact Gz aA (fun z hz=>h z (List.mem_cons_of_mem _ hz)) h2
theorem Q7{y:Pq}(h:Ie y){b:UInt8}(hb:b.toNat < 44):∀ w∈partW y,b ∉ w:=by
 have aA:∀ c:UInt8,44<=c.toNat->b≠c:=fun c hc e=>by rw[e] at hb;omega
 intro w hw;unfold partW at hw;simp only[Ba,Co,or_false] at hw;rcases hw with rfl | rfl | rfl | rfl | rfl | rfl | rfl
 ·intro hm;simp only[wPart,Ba,Co,or_false] at hm;rcases hm with h | h | h | h <;> exact aA _ (by decide) h
 ·exact name_ne h.name (.inl (by omega))
 ·exact num_ne (.inl (by omega))
 ·exact num_ne (.inl (by omega))
 ·intro hm;have:∀ c∈flagT y.1.sched y.1.stop,44<=c.toNat:=by cases y.1.sched <;> cases y.1.stop <;> decide
  have:=this _ hm;omega
 ·unfold healT;intro hm;simp only[Ay] at hm;rcases hm with h | h | h | h | h <;> exact num_ne (.inl (by omega)) h
 exact Gz (aA 44 (by decide)) fun w hw=>by
  obtain⟨q,_,rfl⟩:=By.1 hw;exact Wk (by omega)
structure Mi(N:List (List UInt8)):Prop where
 ok:∀ s∈N,∃ t,nameF t=true/\s=toL t
 one:∀(i j:Nat) (s:List UInt8),i < j->N[i]? = some s->N[j]?≠some s
theorem Mi.at_{N:List (List UInt8)}(h:Mi N){p:Int}(hp:0<=p/\p < N.length):∃ t,nameF t=true/\nmP N p=toL t/\findF N (nmP N p)=p:=by
 have aA:p.toNat < N.length:=by omega
 have e:=Am aA;have hn:=Iq hp.1 e;obtain⟨t,h1,h2⟩:=h.ok _ (An e);refine⟨t,h1,by rw[hn,h2],?_⟩;rw[hn,findF_at e fun j hj he=>h.one j _ _ hj he e];omega
theorem Mi.ne{N:List (List UInt8)}(h:Mi N){b:UInt8}(hb:b.toNat < 48)(p:Int):b ∉ nmP N p:=by
 unfold nmP;split
 ·rw[Dg];cases e:N[p.toNat]? with
  | none=>simp
  | some s =>
   obtain⟨t,h1,h2⟩:=h.ok _ (An e);rw[Bq,h2];exact name_ne h1 (.inl hb)
 simp
theorem Zf{N:List (List UInt8)}(h:Mi N){x:ChV}(hx:Kc N.length x):chanP N (chanW N x)=some x:=by
 obtain⟨t1,_,_,k1⟩:=h.at_ hx.fr;obtain⟨t2,_,_,k2⟩:=h.at_ hx.tt;have e4:valF lim32 (numB x.max.toNat)=(x.max.toNat,true):=Hf hx.max.1 lim32 (by have:=hx.max;unfold lim32;omega);have e5:valF lim40 (numB x.late.toNat)=(x.late.toNat,true):=Hf hx.late.1 lim40 (by have:=hx.late;unfold lim40;omega);have e3:valF lim40 (numB x.cap.toNat)=(x.cap.toNat,true):=Hf hx.cap.1 lim40 (by have:=hx.cap;unfold lim40;omega);unfold chanW;cases hq:x.queue with
 | true =>
  rw[if_pos rfl,Qco,k1,k2,e3,e4,e5,Ae hx.fr.1,Ae hx.tt.1];refine(if_pos rfl).trans ?_;dsimp only;rw[Ae (rfl:(113:UInt8)=113),if_pos rfl,Dj hx.cap.1,Dj hx.max.1,Dj hx.late.1,<- hq]
 | false =>
  rw[if_neg (by decide),Qco,k1,k2,e4,e5,Ae hx.fr.1,Ae hx.tt.1];refine(if_pos rfl).trans ?_;dsimp only;rw[Ac (show ¬ (115:UInt8)=113 by decide),if_neg (by decide),Dj hx.max.1,Dj hx.late.1,<- hq,<- hx.q hq]
theorem Rk{N:List (List UInt8)}(h:Mi N)(x:ChV){b:UInt8}(hb:b.toNat < 44):∀ w∈chanW N x,b ∉ w:=by
 have aA:∀ c:UInt8,44<=c.toNat->b≠c:=fun c hc e=>by rw[e] at hb;omega
 intro w hw;unfold chanW at hw;simp only[Ba,Co,or_false] at hw;rcases hw with rfl | rfl | rfl | rfl | rfl | rfl
 ·intro hm;simp only[wChan,Ba,Co,or_false] at hm;rcases hm with h | h | h | h <;> exact aA _ (by decide) h
 ·exact h.ne (by omega) _
 ·exact h.ne (by omega) _
 ·split
  ·intro hm;rcases Ba.1 hm with h | h
   ·exact aA _ (by decide) h
   exact num_ne (.inl (by omega)) h
  intro hm;simp only[Ba,Co,or_false] at hm;exact aA _ (by decide) hm
 ·exact num_ne (.inl (by omega))
 exact num_ne (.inl (by omega))
theorem Zo{nm:Int->List UInt8}{b:UInt8}(hb:b.toNat < 40)(hn:∀ p,b ∉ nm p):∀(f:F) (c:Bool),b ∉ txX nm f c
 | .nil,_=>by simp[txX]
 | .cons x k r,c=>by
  have aA:∀ c:UInt8,40<=c.toNat->b≠c:=fun c hc e=>by rw[e] at hb;omega
  have h1:=Zo hb hn k false
  have h2:=Zo hb hn r true
  have aB:b ∉ numB x.n.toNat:=num_ne (.inl (by omega))
  have h3:b ∉ txN nm x (txX nm k false):=by
   unfold txN
   intro hm
   split at hm
   ·simp only[Ba,Ay] at hm
    rcases hm with h | h | h | h
    ·exact aA _ (by decide) h
    ·exact hn _ h
    ·exact aA _ (by decide) h
    ·exact aB h
   ·split at hm
    ·simp only[Ba] at hm
     rcases hm with h | h
     ·exact aA _ (by decide) h
     ·exact aB h
    ·split at hm
     ·simp only[Ba,Ay,Co,or_false] at hm
      rcases hm with h | h | h | h
      ·exact aA _ (by decide) h
      ·exact aA _ (by decide) h
      ·exact h1 h
      ·exact aA _ (by decide) h
     ·simp only[Ba,Ay,Co,or_false] at hm
      rcases hm with h | h | h | h | h
      ·exact aA _ (by decide) h
      ·exact aB h
      ·exact aA _ (by decide) h
      ·exact h1 h
      ·exact aA _ (by decide) h
  show b ∉ (if c=true then [44] else [])++(txN nm x (txX nm k false)++txX nm r true)
  intro hm
  rcases Ay.1 hm with h | h
  ·split at h
   ·simp only[Ba,Co,or_false] at h
    exact aA _ (by decide) h
   ·simp at h
  ·rcases Ay.1 h with h | h
   ·exact h3 h
   ·exact h2 h
theorem Uc{N:List (List UInt8)}(h:Mi N)(f:F){b:UInt8}(hb:b.toNat < 40):∀ w∈tabW N f,b ∉ w:=by
 have aA:∀ c:UInt8,40<=c.toNat->b≠c:=fun c hc e=>by rw[e] at hb;omega
 intro w hw;unfold tabW at hw;simp only[Ba,Co,or_false] at hw;rcases hw with rfl | rfl
 ·intro hm;simp only[wTable,Ba,Co,or_false] at hm;rcases hm with h | h | h | h | h <;> exact aA _ (by decide) h
 exact Zo hb (h.ne (by omega)) f false
structure V7(n:Nat)(f:F):Prop where
 one:∃ x k,f=.cons x k .nil
 ok:f.ok
 dep:f.dep<=16
 sz:f.sz<=128
 nl:∀ y∈f.flat,y.n.toNat<=lim40
 p:∀ y∈f.flat,y.k=1->0<=y.p/\y.p < n
theorem Zw{N:List (List UInt8)}(h:Mi N){f:F}(hf:V7 N.length f):tabP N (tabW N f)=some (ndT0 f.flat):=by
 obtain⟨x,k,rfl⟩:=hf.one;have e:=tableR_tx (nm:=nmP N) (look:=findF N) hf.ok (fun y hy=>⟨hf.nl y hy,fun hk=>by
  obtain⟨t,h1,h2,h3⟩:=h.at_ (hf.p y hy hk);refine⟨h3,fun c hc=>?_⟩;rw[h2] at hc;have hb:=name_bytes h1 c hc;unfold st4 st3;have n1:c≠58:=fun e=>by rw[e] at hb;revert hb;decide
  have n2:c≠44:=fun e=>by rw[e] at hb;revert hb;decide
  have n3:c≠40:=fun e=>by rw[e] at hb;revert hb;decide
  have n4:c≠41:=fun e=>by rw[e] at hb;revert hb;decide
  rw[Ac n1,Ac n2,Ac n3,Ac n4];rfl⟩) hf.dep hf.sz
 unfold tabP tabW;dsimp only;rw[e];rfl
theorem Re(i:Nat)(c c':Cft)(W:List (List UInt8))(aA:List (List UInt8))(w0:List UInt8)(W':List (List UInt8))(hW:W=w0::W')(h0:w0≠[])(h1:w0.head?≠some 35)(hn:∀ w∈W,(32:UInt8) ∉ w)(hw:wordsP c W=some c'):
  linesP i c (joinB 32 W::aA)=linesP (i+1) c' aA:=by
 have hh:(joinB 32 W).head? = w0.head?:=by rw[hW];exact join_head h0
 have hs:skipB (joinB 32 W)=false:=by
  unfold skipB;have e1:¬ joinB 32 W=[]:=fun e=>by
   rw[e] at hh;cases w0 with
   | nil=>exact h0 rfl
   | cons a b=>cases hh
  rw[Ac e1,hh,Ac h1];rfl
 have aB:splitF 32 (joinB 32 W)=W:=split_join (by rw[hW];simp) hn;show (if skipB (joinB 32 W)=true then _ else _)=_;rw[hs,if_neg (by decide),aB,hw]
theorem Ko:∀(P:List Pq) (i:Nat) (c:Cft) (aA:List (List UInt8)),(∀ y∈P,Ie y/\y.2≠[])->
  linesP i c (P.map (fun y=>joinB 32 (partW y))++aA)=linesP (i+P.length) ⟨c.P++P.map Ec,c.C,c.T⟩ aA
 | [],i,c,aA,_=>by simp
 | y::P,i,c,aA,h=>by
  obtain⟨h1,h2⟩:=h y (by simp)
  have e:wordsP c (partW y)=some ⟨c.P++[Ec y],c.C,c.T⟩:=by
   unfold wordsP
   rw[if_pos (show (partW y).head? = some wPart from rfl),Yg h1 h2]
   rfl
  rw[Cp,Bo,Re i c _ (partW y) _ wPart _ rfl (by decide) (by decide) (Q7 h1 (by decide)) e,Ko P (i+1) _ aA fun z hz=>h z (by simp[hz])]
  simp[Nat.add_assoc,Nat.add_comm 1]
theorem Kp(N:List (List UInt8))(hN:Mi N):∀(C:List ChV) (i:Nat) (c:Cft) (aA:List (List UInt8)),namesP c.P=N->(∀ x∈C,Kc N.length x)->
  linesP i c (C.map (fun x=>joinB 32 (chanW N x))++aA)=linesP (i+C.length) ⟨c.P,c.C++C,c.T⟩ aA
 | [],i,c,aA,_,_=>by simp
 | x::C,i,c,aA,hc,h=>by
  have e:wordsP c (chanW N x)=some ⟨c.P,c.C++[x],c.T⟩:=by
   unfold wordsP
   rw[if_neg (show ¬ (chanW N x).head? = some wPart from fun e=>by injection e with e;revert e;decide),if_pos (show (chanW N x).head? = some wChan from rfl),hc,Zf hN (h x (by simp))]
   rfl
  rw[Cp,Bo,Re i c _ (chanW N x) _ wChan _ rfl (by decide) (by decide) (Rk hN x (by decide)) e,Kp N hN C (i+1) _ aA (by exact hc) fun z hz=>h z (by simp[hz])]
  simp[Nat.add_assoc,Nat.add_comm 1]
theorem Ma(N:List (List UInt8))(hN:Mi N):∀(T:List F) (i:Nat) (c:Cft),namesP c.P=N->(∀ f∈T,V7 N.length f)->
  linesP i c (T.map (fun f=>joinB 32 (tabW N f))++[[]])=.inr ⟨c.P,c.C,c.T++T.map fun f=>ndT0 f.flat⟩
 | [],i,c,_,_=>by
  show linesP i c [[]]=_
  simp[linesP,skipB]
 | f::T,i,c,hc,h=>by
  have e:wordsP c (tabW N f)=some ⟨c.P,c.C,c.T++[ndT0 f.flat]⟩:=by
   unfold wordsP
   rw[if_neg (show ¬ (tabW N f).head? = some wPart from fun e=>by injection e with e;revert e;decide),if_neg (show ¬ (tabW N f).head? = some wChan from fun e=>by injection e with e;revert e;decide),if_pos (show (tabW N f).head? = some wTable from rfl),hc,Zw hN (h f (by simp))]
   rfl
  rw[Cp,Bo,Re i c _ (tabW N f) _ wTable _ rfl (by decide) (by decide) (Uc hN f (by decide)) e,Ma N hN T (i+1) _ (by exact hc) fun z hz=>h z (by simp[hz])]
  simp
theorem Uz(P:List Pq)(C:List ChV)(T:List F)(hP:∀ y∈P,Ie y/\y.2≠[])(hN:Mi (namesP P))(hC:∀ x∈C,Kc P.length x)(hT:∀ f∈T,V7 P.length f)(hl:(textT (linesT P C T)).length<=16384)
  (hw:(D5 (P.map Ec) C (T.map fun f=>ndT0 f.flat)).1=0):parseP (textT (linesT P C T))=(0,0,⟨P.map Ec,C,T.map fun f=>ndT0 f.flat⟩):=by
 have aB:(namesP P).length=P.length:=by unfold namesP;rw[Bi]
 have aC:∀ x∈linesT P C T,(10:UInt8) ∉ x:=by
  intro x hx;unfold linesT at hx;rcases Ay.1 hx with h | h
  ·obtain⟨y,hy,rfl⟩:=By.1 h;exact Gz (by decide) (Q7 (hP y hy).1 (by decide))
  rcases Ay.1 h with h | h
  ·obtain⟨y,hy,rfl⟩:=By.1 h;exact Gz (by decide) (Rk hN y (by decide))
  obtain⟨y,hy,rfl⟩:=By.1 h;exact Gz (by decide) (Uc hN y (by decide))
 have aA:linesP 0 cft0 (splitF 10 (textT (linesT P C T)))=.inr ⟨P.map Ec,C,T.map fun f=>ndT0 f.flat⟩:=by
  rw[split_text aC];unfold linesT;rw[Ar,Ar,Ko P _ _ _ hP,Kp (namesP P) hN C _ _ _ (by show namesP ([]++P.map Ec)=_;rw[Cw,Gr]) (by rw[aB];exact hC),
   Ma (namesP P) hN T _ _ (by show namesP ([]++P.map Ec)=_;rw[Cw,Gr]) (by rw[aB];exact hT)]
  rfl
 unfold parseP;rw[if_neg (by omega),aA];dsimp only;rw[if_pos hw]
