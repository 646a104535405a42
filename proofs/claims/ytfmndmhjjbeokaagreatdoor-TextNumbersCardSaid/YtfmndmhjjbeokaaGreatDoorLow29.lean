import Derived.Test.YtfmndmhjjbeokaaGreatDoorLow28
import Derived.Deep.CutBlock
set_option maxHeartbeats 16000000
set_option maxRecDepth 100000
set_option linter.unusedSimpArgs false
set_option linter.unusedVariables false
namespace Go.Proofs.YtfmndmhjjbeokaaGreatDoor
open Go.RowKit Tab
def Mh(w:World)(B:Nat)(A:Option Addr)(n c:Nat)(L:List Rw):Prop :=
 OwnV 90 1 w B A n c (L.map Rw.v)/\∀ r∈L,Ot w r/\∀ b,obk r.a=some b->B<=b/\b < w.heap.size/\obk A≠some b
theorem Mh.only{p:Nat->Prop}{w w':World}{B n c:Nat}{A:Option Addr}{L:List Rw}(h:Mh w B A n c L)(ho:Only p w w')(hp:∀ k,p k->k < B):Mh w' B A n c L:=by
 refine⟨h.1.keep fun k hB hk=>ho.block k hk fun aA=>by have:=hp k aA;omega,fun r hr=>⟨(h.2 r hr).1.only ho fun b hb aB=>?_,fun b hb=>⟨((h.2 r hr).2 b hb).1,Bc ((h.2 r hr).2 b hb).2.1 ho.size,((h.2 r hr).2 b hb).2.2⟩⟩⟩;have h1:=((h.2 r hr).2 b hb).1;have h2:=hp b aB;omega
theorem Mh.at_{w:World}{B n c:Nat}{A:Option Addr}{L:List Rw}(h:Mh w B A n c L){i:Nat}(hi:i < n):∃ g r,A=some ⟨g,0,none⟩/\B<=g/\g < w.heap.size/\L[i]? = some r/\w.cell? ⟨g,i,none⟩=some (.slice r.a r.n r.c)/\Ot w r:=by
 obtain⟨g,rfl,aC,aB⟩:=h.1.block (by omega);have hl:=h.1.len;rw[Bi,Cj] at hl;have aA:i < L.length:=by omega
 refine⟨g,L[i],rfl,aC,aB,Am aA,?_,(h.2 _ (List.getElem_mem aA)).1⟩;refine(Ah h.1 i (by omega)).trans ?_;rw[Bm,Am aA];rfl
def Ow(P P':List PtV):Prop:=∀ x∈P',Ef x.per/\∃ x0∈P,x.pa=x0.pa/\x.pn=x0.pn/\x.name=x0.name
theorem Ow.set{P P':List PtV}(h:Ow P P'){i:Nat}{x:PtV}(hx:P'[i]? = some x){y z:Int}(hz:Ef z):Ow P (P'.set i { x with bud:=y,per:=z }):=fun u hu=>by
 rcases List.mem_or_eq_of_mem_set hu with hu | rfl
 ·exact h u hu
 ·obtain⟨_,x0,h0,h1⟩:=h x (An hx)
  exact⟨hz,x0,h0,h1⟩
def Iz(T:List TbV)(C:List ChV):Prop:=∀ x∈C,(0<=x.late/\x.late<=4096)/\∀ t∈T,Ew (Dx (E8 t)) x=false
def Fi(T:List TbV)(P:List PtV):Prop:=∀ k x,P[k]? = some x->∀ t∈T,Fb (Dx (E8 t)) k x=false
theorem Iz.start{T:List TbV}{C:List ChV}(h:∀ x∈C,x.late=0):Iz T C:=fun x hx=>⟨by have:=h x hx;omega,fun t _=>by
 have:=h x hx
 unfold Ew
 rw[Ac (by omega)]
 rfl⟩
theorem Fi.start{T:List TbV}{P:List PtV}(h:∀ x∈P,x.bud<=0):Fi T P:=fun k x hx t _=>by
 have:=h x (An hx)
 unfold Fb
 rw[Ac (by omega)]
 rfl
theorem Iz.set{T:List TbV}{C:List ChV}(h:Iz T C){i:Nat}{x:ChV}{z z':Int}(hz:∀ t∈T,0<=D9 (Dx (E8 t)) x.from_ x.to_/\D9 (Dx (E8 t)) x.from_ x.to_<=z)(aC:z<=z')(aB:0<=z')(aA:z'<=4096):Iz T (C.set i { x with late:=z' }):=fun u hu=>by
 rcases List.mem_or_eq_of_mem_set hu with hu | rfl
 ·exact h u hu
 ·refine⟨⟨aB,aA⟩,fun t ht=>?_⟩
  have h1:=hz t ht
  unfold Ew
  dsimp only
  rw[Ac (show ¬ D9 (Dx (E8 t)) x.from_ x.to_ < 0 by omega),Ac (show ¬ z' < D9 (Dx (E8 t)) x.from_ x.to_ by omega)]
  simp
theorem Fi.set{T:List TbV}{P:List PtV}(h:Fi T P){i:Nat}{x:PtV}{y z z':Int}(hz:∀ t∈T,z<=Fr (Dx (E8 t)) (i:Int) y)(aA:z'<=z):Fi T (P.set i { x with bud:=z',per:=y }):=fun k u hu t ht=>by
 by_cases hk:i=k
 ·subst hk
  by_cases hi:i < P.length
  ·rw[List.getElem?_set_self hi] at hu
   injection hu with hu
   subst hu
   have h1:=hz t ht
   unfold Fb
   dsimp only
   rw[Ac (show ¬ Fr (Dx (E8 t)) (i:Int) y < z' by omega)]
   simp
  ·rw[Bw (by simpa using hi)] at hu
   cases hu
 ·rw[List.getElem?_set_ne hk] at hu
  exact h k u hu t ht
theorem Fi.none{T:List TbV}{P:List PtV}(h:Fi T P){i:Nat}{x:PtV}:Fi T (P.set i { x with bud:=0,per:=0 }):=fun k u hu t ht=>by
 by_cases hk:i=k
 ·subst hk
  by_cases hi:i < P.length
  ·rw[List.getElem?_set_self hi] at hu
   injection hu with hu
   subst hu
   rfl
  ·rw[Bw (by simpa using hi)] at hu
   cases hu
 ·rw[List.getElem?_set_ne hk] at hu
  exact h k u hu t ht
theorem Kf{α:Type}{l:List α}{j:Nat}{x:α}(h:l[j]? = some x){y:α}(hy:y∈l.take (j+1)):y∈l.take j\/y=x:=by
 obtain⟨hj,e⟩:=Af.1 h;rw[Cb hj,e] at hy;rcases Ay.1 hy with hy | hy
 ·exact .inl hy
 exact .inr (by simpa using hy)
theorem ag{L:List Rw}{T:List TbV}(h:L.map Rw.l=T.map E8){j:Nat}{r:Rw}(hr:L[j]? = some r):∃ t,T[j]? = some t/\r.l=E8 t:=by
 have h1:(L.map Rw.l)[j]? = some r.l:=by rw[Bm,hr];rfl
 rw[h,Bm] at h1;cases ht:T[j]? with
 | none=>rw[ht] at h1;cases h1
 | some t=>rw[ht] at h1;injection h1 with h1;exact⟨t,rfl,h1.symm⟩
theorem Xc{P:List PtV}{i:Nat}{x0:PtV}(h:∀ k x,k < i->P[k]? = some x->x.bud=0/\x.per=0):∀ k x,k < i+1->(P.set i { x0 with bud:=0,per:=0 })[k]? = some x->x.bud=0/\x.per=0:=fun k x hk hx=>by
 rw[List.getElem?_set] at hx
 split at hx
 ·split at hx
  ·injection hx with hx
   rw[<- hx]
   exact⟨rfl,rfl⟩
  ·cases hx
 ·exact h k x (by omega) hx
theorem Yt{t:TbV}(h:Lu t)(p q:Int):D9 (Dx (E8 t)) p q<=90:=by
 have h1:=S5 (Dx (E8 t)) p q;rw[Gc] at h1;have h2:ticks (E8 t)<=90:=by unfold E8;rw[ticks_tidy];exact h.2
 omega
def fd(p:Nat->Prop)(B b:Nat)(A:Option Addr)(m c:Nat)(f:Nat->Int)(A1 A2 A3:Option Addr)(n1 n2 n3 c1 c2 c3:Nat)(P:List PtV)(C:List ChV)(T:List TbV)(B1:Nat)(w:World)(e:Ending)(w':World):Prop :=
 ∃(P':List PtV) (C':List ChV) (at':Nat),e=.returned (.agg #[.slice A1 n1 c1,.slice A2 n2 c2,.slice A3 n3 c3])/\RdB pcl w' w'.heap.size A1 n1 P'/\RdB cc w' w'.heap.size A2 n2 C'/\P'.map coreP=P.map coreP/\C'.map coreC=C.map coreC/\Eb w' B b A m c f at'/\Only p w w'/\(∀ x∈P',Ef x.per)/\Iz T C'/\Fi T P'/\Ey 60 11 pcl w' B1 A1 n1 c1 P'/\Ey 66 6 cc w' B1 A2 n2 c2 C'/\Xa w P' C' T
theorem eo(p:Nat->Prop)(B b:Nat)(A:Option Addr)(m c:Nat)(f:Nat->Int)(hm:m<=140737488351232)(at_:Nat)(A1 A2 A3:Option Addr)(n1 n2 n3 c1 c2 c3 B1:Nat)(P:List PtV)(C:List ChV)(T:List TbV)(w:World)
  (T0:Eb w B b A m c f at_) (hP:Ey 60 11 pcl w B1 A1 n1 c1 P) (hC:Ey 66 6 cc w B1 A2 n2 c2 C) (hA:Tp p w A3 n3 P T) (aP:b < B1)
  (hp:∀ k,p k↔k=b\/obk A1=some k\/obk A2=some k) (fI:∀ k,obk A1=some k->obk A2≠some k) (q1:n1<=6) (q2:n2<=8) (q3:n3<=3) (q4:1<=n3) (bP:∀ x∈C,x.late=0) (bT:∀ x∈P,x.bud<=0) :
  Calls Tryz.prog 26 #[.pointer (some ⟨b,0,none⟩),.agg #[.slice A1 n1 c1,.slice A2 n2 c2,.slice A3 n3 c3]] w (fd p B b A m c f A1 A2 A3 n1 n2 n3 c1 c2 c3 P C T B1 w):=by
 have eM:Hd (Iz T C):=hid (Iz.start bP);have eO:Hd (Fi T P):=hid (Fi.start bT);have eB:Hd (T.length=n3):=hid hA.t.len;have gS:Hd (∀ t∈T,Lu t):=hid fun t ht=>(hA.tt t ht).2;clear bP bT;have bU:=G9 w (.slice A1 n1 c1) (.slice A2 n2 c2) (.slice A3 n3 c3) 31;have dN:=bl1 w (.cells #[.slice A1 n1 c1,.slice A2 n2 c2,.slice A3 n3 c3] 31);have dQ:=(bl1 (w.alloc (.cells #[.slice A1 n1 c1,.slice A2 n2 c2,.slice A3 n3 c3] 31)) (.cells #[.slice none 0 0,.slice none 0 0,.slice none 0 0] 31));have aU:=G9 (w.alloc (.cells #[.slice A1 n1 c1,.slice A2 n2 c2,.slice A3 n3 c3] 31)) (.slice none 0 0) (.slice none 0 0) (.slice none 0 0) 31;have aK:=bU.on dQ;have aR:=dN.trans (dQ.mono dN.size);have bJ:(w.alloc (.cells #[.slice A1 n1 c1,.slice A2 n2 c2,.slice A3 n3 c3] 31)).heap.size=w.heap.size+1:=by simp
 rw[bJ] at aU;have aZ:=hid hp;have bN:∀ k,p k->k < w.heap.size:=fun k hk=>by
  rcases(hp k).1 hk with e | e | e
  ·rw[e];exact T0.lt
  ·exact(hP.own.obk_ge e).2
  exact(hC.own.obk_ge e).2
 have cH:=hid bN;have HO:=hid (Only.bel (p:=p) aR);have eK:=hid (hP.below aR);have eN:=hid (hC.below aR);have dD:=hid (hA.only HO.o);have cO:=hid hA;have cX:=hid (T0.below aR T0.lt);have dE:=hid fI;have dB:=hid aK;have cG:=hid aU;obtain⟨m0,m1,m2⟩:=aK.three;clear bU dN dQ aU aK aR bJ hp bN hP hC hA T0 fI;go_in;go_upto_region 2 with fail;generalize hW:(w.alloc (.cells #[.slice A1 n1 c1,.slice A2 n2 c2,.slice A3 n3 c3] 31)).alloc (.cells #[.slice none 0 0,.slice none 0 0,.slice none 0 0] 31)=W at HO eK eN dD cX dB cG m0 m1 m2 |-;obtain⟨gc,dK⟩:∃ gc,gc=w.heap.size:=⟨_,rfl⟩;rw[<- dK] at dB cG m0 m1 m2 |-;have cK:=hid dK;have gE:gc+1 < W.heap.size:=cG.o.lt;clear hW dK;go_wp2;go_loopw [5,7,8,9,25] (fun lv _ _ _ s wr=>∃(i c5:Nat) (A5:Option Addr) (L:List Rw),i<=n3/\s=.int .i64 i/\lv=.slice A5 i c5/\Mh wr W.heap.size A5 i c5 L/\L.map Rw.l=(T.take i).map E8/\Below W.heap.size W wr) (fun _ _ _ _ s _=>n3 - (intOf s).toNat)
 case atStart=>exact⟨0,0,none,[],by omega,rfl,rfl,⟨OwnV.nil _ _ _ _,fun r hr=>by cases hr⟩,rfl,Aj _ _⟩
 obtain⟨i,c5,A5,L,hi,rfl,rfl,hR,eX,hb⟩:=hrel;have eH:=hid eX;clear eX;by_cases cR:i < n3
 ·have dU:=dD.o.only (Only.bel (p:=p) hb);obtain⟨ad,t,rfl,iF,ht,c0,_⟩:=dU.t.at_ fm (by omega) cR;have d0:=c0 _ rfl;rw[Cj] at d0;obtain⟨eV,fE⟩:=dU.tt t (An ht);have cY:=hid (gh t wr eV fE);have gR:=hid ht;clear c0 ht eV fE dU;generalize bM:E8 t=rt at cY;have eG:=hid bM;clear bM;obtain⟨tA,tn,tc,tx,tk⟩:=t;dsimp only at d0 cY;go_wp2_with fail;refine cY.o.mono ?_;rintro e w5⟨r,rfl,hr,aB,aX,eW⟩;have fM:=hid eW;have fG:=hR.only (Only.bel (p:=fun _=>False) aB) (fun k hk=>hk.elim);obtain⟨ra,rn,rc,rl⟩:=r;unfold Rw.v;dsimp only at hr aX fM |-;clear eW;have cJ:Hd ((L++[(⟨ra,rn,rc,rl⟩:Rw)]).map Rw.l=(T.take (i+1)).map E8):=hid (by
   have h1:=gR.o;obtain⟨gD,e⟩:=Af.1 h1;rw[Cb gD,e,De,De,eH.o];show _++[rl]=_++[E8 _];rw[eG.o,fM.o])
  have bV:=bl1 w5 (.cells #[.slice ra rn rc] 90);have dS:=fG.only (Only.bel (p:=fun _=>False) bV) (fun k hk=>hk.elim);have aV:=rdV_new w5 #[.slice ra rn rc] 90 ([(⟨ra,rn,rc,rl⟩:Rw)].map Rw.v) rfl;have aO:=hb.trans (aB.mono hb.size);have dP:=aO.trans (bV.mono aO.size);have fX:=dP.size;have eY:=hr.on bV;have fW:=hb.size;have fN:=hid dS.2;have gX:=hid eY;have gZ:=hid (show ∀ b,obk ra=some b->W.heap.size<=b/\b < (w5.alloc (.cells #[.slice ra rn rc] 90)).heap.size/\obk A5≠some b from fun b hb=>by
   have h1:=aX b hb;have h2:=bV.size;refine⟨by omega,by omega,fun e=>?_⟩;have:=(hR.1.obk_ge e).2;omega)
  have hU:=hid dP;have dH:=dS.1;clear hR fG dS hb aB aO dP bV hr eY aX cY fW;go_wp2_with (at_builtin;go_loud (refine Ea Qba rfl (.tmp 34) (.tmp 36) rfl rfl W.heap.size A5 i c5 _ rfl dH _ 1 1 _ _ rfl aV rfl Cv (gf _) (by omega) (by unfold maxLen;omega) fX (i+1) rfl ((L++[(⟨ra,rn,rc,rl⟩:Rw)]).map Rw.v) De.symm ?_;intro A8 c8 w8 fV gI bE));go_roundw
  case rel =>
   refine⟨i+1,c8,A8,_,by omega,by go_num,rfl,⟨fV,fun r hr=>?_⟩,cJ.o,hU.o.trans gI⟩;have ho:Only (fun k=>obk A5=some k) (w5.alloc (.cells #[.slice ra rn rc] 90)) w8:=⟨bE.gb.os,bE.gb.tape,bE.gb.output,bE.gb.size,fun k hk hn=>bE.gb.block k hk fun e=>hn e.symm⟩;have eS:∀ r:Rw,Ot (w5.alloc (.cells #[.slice ra rn rc] 90)) r->(∀ b,obk r.a=some b->W.heap.size<=b/\b < (w5.alloc (.cells #[.slice ra rn rc] 90)).heap.size/\obk A5≠some b)->Ot w8 r/\∀ b,obk r.a=some b->W.heap.size<=b/\b < w8.heap.size/\obk A8≠some b:=fun r h1 h2=>by
    refine⟨h1.only ho fun b hb e=>(h2 b hb).2.2 e,fun b hb=>⟨(h2 b hb).1,Bc (h2 b hb).2.1 ho.size,fun e=>?_⟩⟩;rcases bE.at_ with e2 | ⟨g,e2,hg⟩
    ·exact(h2 b hb).2.2 (by rw[<- e2];exact e)
    rw[e2] at e;injection e with e;have:=(h2 b hb).2.1;omega
   rcases Ay.1 hr with hr | hr
   ·exact eS r (fN.o r hr).1 (fN.o r hr).2
   simp at hr;subst hr;exact eS _ gX.o gZ.o
  simp[intOf];omega
 have bF:n3<=i:=by omega
 obtain rfl:n3=i:=by omega
 have gB:=hR.1.len;have cE:Hd (L.map Rw.l=T.map E8):=hid (by
  have h:=eH.o;rw[Bd (by rw[eB.o];exact Ag _)] at h;exact h)
 clear eH;have dR:Gv p B b A m c f A1 A2 n1 n2 c1 c2 B1 P C wr wr P C:=by
  have hT:=cX.o.below hb cX.o.lt;exact⟨eK.o.below hb,eN.o.below hb,rfl,rfl,⟨_,hT⟩,Only.refl _ _⟩
 have HR:=hid hR;have eL:=hid (HO.o.trans (Only.bel (p:=p) hb));have eP:=hid (dD.o.only (Only.bel (p:=p) hb));have bB:=hid (dB.o.on hb);have aY:=hid (cG.o.on hb);have fB:p b:=(aZ.o b).2 (.inl rfl);have eZ:¬ p gc:=fun e=>by have:=cH.o _ e;have:=cK.o;omega
 have aN:¬ p (gc+1):=fun e=>by have:=cH.o _ e;have:=cK.o;omega
 have aJ:Hd (∀ wx,Only p wr wx->wx.cell? ⟨gc,0,none⟩=some (.slice A1 n1 c1)/\wx.cell? ⟨gc,1,none⟩=some (.slice A2 n2 c2)/\wx.cell? ⟨gc,2,none⟩=some (.slice A3 n3 c3)):=hid fun wx ho=>(bB.o.keep (ho.block gc bB.o.lt eZ) ho.size).three;have cF:=hid fun wx (ho:Only p wr wx)=>HR.o.only ho fun k hk=>by have:=cH.o k hk;have:=cK.o;omega
 have bG:=hid fB;obtain⟨m0,m1,m2⟩:=aJ.o wr (Only.refl _ _);clear hR hb gB fB eZ aN eK eN dD cX dB cG HO;go_wp2_with fail;obtain⟨W2,fF⟩:∃ W2,W2=wr:=⟨_,rfl⟩;rw[<- fF] at dR HR eL eP bB aY aJ cF m0 m1 m2 |-;clear fF m0 m1 m2;go_loopw [10,11,13,14,42] (fun _ _ _ _ s wx=>∃(i:Nat) (C':List ChV),i<=n2/\s=.int .i64 i/\Gv p B b A m c f A1 A2 n1 n2 c1 c2 B1 P C W2 wx P C'/\Iz T C') (fun _ _ _ _ s _=>n2 - (intOf s).toNat)
 case atStart=>exact⟨0,C,by omega,rfl,dR,eM.o⟩
 obtain⟨i,C',hi,rfl,hS,fC⟩:=hrel;have dA:=hid fC;clear dR fC;by_cases cR:i < n2
 ·obtain⟨g2,rfl,gK,dL⟩:=hS.ch.own.block (by omega);have gA:=hS.ch.len;have hx:C'[i]? = some (C'[i]'(by omega)):=Am _;obtain⟨x,bI⟩:∃ x,x=C'[i]'(by omega):=⟨_,rfl⟩;rw[<- bI] at hx;have HX:=hid hx;have bO:p g2:=(aZ.o g2).2 (.inr (.inr rfl));have cA:obk A1≠some g2:=fun e=>dE.o g2 e rfl;have eI:=hid bO;have eR:=hid cA;have bH:Hd (∀ wx C2,Gv p B b A m c f A1 (some ⟨g2,0,none⟩) n1 n2 c1 c2 B1 P C W2 wx P C2->C2=C'->wx.cell? ⟨g2,i*6,none⟩=some (.int .i64 x.from_)/\wx.cell? ⟨g2,i*6+1,none⟩=some (.int .i64 x.to_)/\wx.cell? ⟨g2,i*6+5,none⟩=some (.int .i64 x.late)/\wx.frozen? ⟨g2,i*6+5,none⟩=false):=hid fun wx C2 h e=>by
   subst e;have e0:=h.ch.cell Gk (k:=0) HX.o (by omega) rfl;have e1:=h.ch.cell Gk (k:=1) HX.o (by omega) rfl;have e5:=h.ch.cell Gk (k:=5) HX.o (by omega) rfl;exact⟨e0.1,e1.1,e5.1,e5.2⟩
  have HS:=hid hS;have gH:=cF.o wr hS.on;clear hx bI bO cA hS gH gA;go_wp2_with fail;obtain⟨W3,bW⟩:∃ W3,W3=wr:=⟨_,rfl⟩;rw[<- bW] at HS dL |-;clear bW;go_loopw [11,13,14,47] (fun lv _ _ s wx=>∃(j:Nat) (z:Int),j<=n3/\s=.int .i64 j/\lv=.int .i64 z/\z<=90/\(0<=z->∀ t∈T.take j,0<=D9 (Dx (E8 t)) x.from_ x.to_/\D9 (Dx (E8 t)) x.from_ x.to_<=z)/\Below W3.heap.size W3 wx) (fun _ _ _ s _=>n3 - (intOf s).toNat)
  case atStart=>exact⟨0,0,by omega,rfl,rfl,by omega,(fun _ t ht=>by cases ht),Aj _ _⟩
  obtain⟨j,z,hj,rfl,rfl,fS,aM,hb⟩:=hrel;have cC:=hid aM;clear aM;have aG:=HS.o.bel hb;by_cases dJ:j < n3
  ·obtain⟨g5,r,rfl,_,_,bY,d0,aE⟩:=(cF.o _ aG.on).at_ dJ;obtain⟨tj,bD,bL⟩:=ag cE.o bY;have dM:=Yt (gS.o tj (An bD)) x.from_ x.to_;obtain⟨m0,m1,m2⟩:=aJ.o _ aG.on;obtain⟨f0,f1,_,_⟩:=bH.o _ _ aG rfl;have aV:=aE.on (w':=wr.drew) (Aj _ _).drew;have cZ:=hid (S3 r.a r.n r.c r.l x.from_ x.to_ wr.drew aV.rd aV.cap (by have:=aV.few;omega) (by have:=aV.tk;omega));rw[bL] at cZ;have aD:Hd (∀ z':Int,0<=z->0<=D9 (Dx (E8 tj)) x.from_ x.to_->z<=z'->D9 (Dx (E8 tj)) x.from_ x.to_<=z'->∀ t∈T.take (j+1),0<=D9 (Dx (E8 t)) x.from_ x.to_/\D9 (Dx (E8 t)) x.from_ x.to_<=z'):=hid fun z' h0 h1 h2 h3 t ht=>by
    rcases Kf bD ht with h | rfl
    ·have:=cC.o h0 t h;omega
    exact⟨h1,h3⟩
   clear bY bD bL;generalize D9 (Dx (E8 tj)) x.from_ x.to_=ln at cZ aD dM;have HB:=hid hb;obtain⟨ra,rn,rc,rl⟩:=r;dsimp only at d0 cZ;clear aG aE aV hb;go_upto_region 15 with fail;go_region_with (go_at_call 53;refine cZ.o.mono ?_;rintro e w5⟨rfl,aB⟩)
   all_goals
    have aO:Below W3.heap.size W3 w5:=HB.o.trans (show Below W3.heap.size wr w5 from ⟨aB.os,aB.tape,aB.output,aB.size,fun k hk=>aB.block k (Bc hk HB.o.size)⟩);clear aB d0 m0 m1 m2 f0 f1;by_cases fD:ln < 0
    ·have t1:=Ae fD;go_wp2;go_roundw
     case rel=>exact⟨j+1,_,by omega,by go_num,rfl,by omega,(fun h=>by omega),aO⟩
     simp[intOf];omega
    have t1:=Ac fD;by_cases cP:z < 0
    ·have t2:=Ae cP;go_wp2;go_roundw
     case rel=>exact⟨j+1,_,by omega,by go_num,rfl,by omega,(fun h=>by omega),aO⟩
     simp[intOf];omega
    have t2:=Ac cP;go_wp2;go_roundw
    case rel =>
     refine⟨j+1,_,by omega,by go_num,rfl,?_,fun _=>aD.o _ (by omega) (by omega) ?_ ?_,aO⟩
     ·first | omega | (split <;> omega)
     ·first | omega | (split <;> omega)
     first | omega | (split <;> omega)
    simp[intOf];omega
  have bF:n3<=j:=by omega
  obtain⟨dW,T7⟩:=aG.tp;have cD:=hid aG;clear hb aG;by_cases hz:0 < z
  ·have t1:=Ae hz;have bC:Hd (∀ t∈T,0<=D9 (Dx (E8 t)) x.from_ x.to_/\D9 (Dx (E8 t)) x.from_ x.to_<=z):=hid (by
    have h:=cC.o (by omega);rw[Bd (by rw[eB.o];exact bF)] at h;exact h)
   go_upto_region 20 with fail;go_wp2_with fail;refine(D6 B b A m c f dW 3 _ wr T7 rfl (by omega) (by omega) hm).mono ?_;rintro e w5⟨k,dX,hk,rfl,T5,G5⟩;have aA:=cD.o.next T5 G5 aP bG.o;by_cases bQ:0 < k
   ·have gC:(0:Int) < (k:Int):=by omega
    have t2:=Ae bQ;obtain⟨m0,m1,m2⟩:=aJ.o _ aA.on;obtain⟨f0,f1,f5,f6⟩:=bH.o _ _ aA rfl;have cJ:Hd (Calls Tryz.prog 24 #[.pointer (some ⟨b,0,none⟩),.int .i64 6] w5.drew fun e w6=>∃ q:Int,e=.returned (.int .i64 q)/\(0<=q/\q<=5)/\Gv p B b A m c f A1 (some ⟨g2,0,none⟩) n1 n2 c1 c2 B1 P C W2 w6 P C'/\w6.cell? ⟨gc,0,none⟩=some (.slice A1 n1 c1)/\w6.cell? ⟨gc,1,none⟩=some (.slice (some ⟨g2,0,none⟩) n2 c2)/\w6.cell? ⟨g2,i*6+5,none⟩=some (.int .i64 x.late)/\w6.frozen? ⟨g2,i*6+5,none⟩=false):=hid (by
     have bX:=aA.bel (w':=w5.drew) (Aj _ _).drew;obtain⟨dV,T8⟩:=bX.tp;refine(D6 B b A m c f dV 6 _ w5.drew T8 rfl (by omega) (by omega) hm).mono ?_;rintro e w6⟨q,fJ,iA,rfl,T6,G6⟩;have aC:=bX.next T6 G6 aP bG.o;obtain⟨m0,m1,m2⟩:=aJ.o _ aC.on;obtain⟨f0,f1,f5,f6⟩:=bH.o _ _ aC rfl;exact⟨_,rfl,⟨by omega,by omega⟩,aC,m0,m1,f5,f6⟩)
    clear aA T5 G5 T7;go_upto_region 21 with fail;go_region_with (go_at_call 24;refine cJ.o.mono ?_;rintro e w6⟨q,rfl,⟨fY,iB⟩,aC,v0,v1,v5,v6⟩)
    all_goals
     have eD:=hid aC;clear aC;go_wp2;go_roundw
     case rel =>
      refine⟨i+1,_,by omega,by go_num,Gv.late eD.o HX.o _ aP eI.o eR.o,dA.o.set bC.o ?_ ?_ ?_⟩
      ·first | omega | (split <;> omega)
      ·first | omega | (split <;> omega)
      first | omega | (split <;> omega)
     simp[intOf];omega
   have gC:¬ (0:Int) < (k:Int):=by omega
   have t2:=Ac bQ;have eE:=hid aA;clear aA T5 G5 T7;go_wp2;go_roundw
   case rel=>exact⟨i+1,C',by omega,by go_num,eE.o,dA.o⟩
   simp[intOf];omega
  have t1:=Ac hz;go_wp2;go_roundw
  case rel=>exact⟨i+1,C',by omega,by go_num,cD.o,dA.o⟩
  simp[intOf];omega
 have bF:n2<=i:=by omega
 have aF:=hS.on;obtain⟨g5,r,rfl,_,_,_,d0,aE⟩:=(cF.o _ aF).at_ (i:=0) (by omega);have dZ:=hid (Pu r.a r.n r.c r.l wr aE.rd aE.cap (by have:=aE.few;omega) (by have:=aE.tk;omega));have dG:=aE.tk;obtain⟨ra,rn,rc,rl⟩:=r;dsimp only at d0 dZ dG;generalize ticks rl=y0 at dZ dG;have gV:=hid hS;clear hS aF aE;go_wp2_with fail;refine dZ.o.mono ?_;rintro e w5⟨rfl,aB⟩;have aA:=gV.o.bel aB;obtain⟨dX,T5⟩:=aA.tp;have eE:=hid aA;clear aA aB d0;go_wp2_with fail;refine(D6 B b A m c f dX 3 _ w5 T5 rfl (by omega) (by omega) hm).mono ?_;rintro e w6⟨k,fJ,hk,rfl,T6,G6⟩;have eD:=hid (eE.o.next T6 G6 aP bG.o);clear T5 T6 G6;go_upto_block 6 with fail;go_cut [15,16] from 100 to 111 (fun a bb wx=>∃ y:Nat,a=.int .i64 (y:Int)/\y<=90/\wx=w6)
 case first =>
  go_wp2;go_loopw [15,16] (fun a bb wx=>∃ y kk:Nat,a=.int .i64 (y:Int)/\bb=.int .i64 (kk:Int)/\y<=90/\kk<=4/\wx=w6) (fun _ bb _=>(intOf bb).toNat)
  case atStart=>exact⟨y0,2+k,rfl,by go_num,dG,by omega,rfl⟩
  obtain⟨y,kk,rfl,rfl,hy,iE,rfl⟩:=hrel;by_cases h1:1 < kk
  ·have gL:(1:Int) < (kk:Int):=by omega
   have bQ:¬ kk=0:=by omega
   by_cases hm:y % kk=0
   ·have hz:(y:Int) % (kk:Int)=0:=by rw[<- Di,hm];rfl
    have aM:(y:Int).tmod (kk:Int)=0:=by rw[Ce (C5 _)];exact hz
    have fR:((y:Int).tmod (kk:Int) == 0)=true:=Ck.2 aM;have fQ:((y:Int) % (kk:Int) == 0)=true:=Ck.2 hz;go_wp2_with fail;go_meet
    case rel =>
     obtain⟨Q,hQ⟩:∃ Q,Q=y / kk:=⟨_,rfl⟩;have gF:(y:Int) / (kk:Int)=(Q:Int):=by rw[hQ];exact(Int.natCast_ediv y kk).symm
     have gJ:Q<=90:=by rw[hQ];have:=Nat.div_le_self y kk;omega
     rw[gF];clear hQ;exact⟨Q,congrArg (Value.int .i64) (IntWalk.wrap64_in (Q:Int) (by omega)),gJ,rfl⟩
   have hz:¬ (y:Int) % (kk:Int)=0:=by rw[<- Di];omega
   have aM:¬ (y:Int).tmod (kk:Int)=0:=by rw[Ce (C5 _)];exact hz
   have fR:((y:Int).tmod (kk:Int) == 0)=false:=Ak.2 aM;have fQ:((y:Int) % (kk:Int) == 0)=false:=Ak.2 hz;go_wp2;go_roundw
   case rel=>exact⟨y,kk - 1,rfl,by go_num,hy,by omega,by trivial⟩
   simp[intOf];omega
  have gL:¬ (1:Int) < (kk:Int):=by omega
  go_wp2_with fail;go_meet
  case rel=>exact⟨y,rfl,hy,rfl⟩
 obtain⟨y,rfl,hy,eU⟩:=hcut;rw[eU];clear eU;have aC:=eD.o;obtain⟨m0,m1,m2⟩:=aJ.o _ aC.on;have fA:Ef (y:Int):=by unfold Ef;omega
 have fO:=hid fA;have fH:Ow P P:=fun x hx=>⟨(eP.o.pt x hx).per,x,hx,rfl,rfl,rfl⟩;clear fA;go_wp2;clear m0 m1 m2;go_loopw [17,18,20,114] (fun _ _ _ s wx=>∃(i:Nat) (P':List PtV),i<=n1/\s=.int .i64 i/\Gv p B b A m c f A1 A2 n1 n2 c1 c2 B1 P C W2 wx P' C'/\Ow P P'/\Fi T P') (fun _ _ _ s _=>n1 - (intOf s).toNat)
 case atStart=>exact⟨0,P,by omega,rfl,aC,fH,eO.o⟩
 obtain⟨i,P',hi,rfl,hS,aH,bK⟩:=hrel;have aL:=hid bK;clear bK;clear aC fH;by_cases cR:i < n1
 ·obtain⟨g1,rfl,dT,bR⟩:=hS.pp.own.block (by omega);have dI:=hS.pp.len;have hx:P'[i]? = some (P'[i]'(by omega)):=Am _;obtain⟨x,bI⟩:∃ x,x=P'[i]'(by omega):=⟨_,rfl⟩;rw[<- bI] at hx;have HX:=hid hx;have aN:p g1:=(aZ.o g1).2 (.inr (.inl rfl));have bZ:obk A2≠some g1:=dE.o g1 rfl;have eJ:=hid aN;have eQ:=hid bZ;have bA:=hid aH;have bH:Hd (∀ wx P2,Gv p B b A m c f (some ⟨g1,0,none⟩) A2 n1 n2 c1 c2 B1 P C W2 wx P2 C'->P2=P'->wx.cell? ⟨g1,i*11+1,none⟩=some (.int .i64 x.bud)/\wx.frozen? ⟨g1,i*11+1,none⟩=false/\wx.cell? ⟨g1,i*11+2,none⟩=some (.int .i64 x.per)/\wx.frozen? ⟨g1,i*11+2,none⟩=false):=hid fun wx P2 h e=>by
   subst e;have e0:=h.pp.cell Hn (k:=1) HX.o (by omega) rfl;have e1:=h.pp.cell Hn (k:=2) HX.o (by omega) rfl;exact⟨e0.1,e0.2,e1.1,e1.2⟩
  have HS:=hid hS;clear hx bI aN bZ hS dI aH;go_wp2_with fail;obtain⟨W3,bW⟩:∃ W3,W3=wr:=⟨_,rfl⟩;rw[<- bW] at HS bR |-;clear bW;go_loopw [18,20,119] (fun lv _ s wx=>∃(j:Nat) (z:Int),j<=n3/\s=.int .i64 j/\lv=.int .i64 z/\z<=4096/\-4096<=z/\(∀ t∈T.take j,z<=Fr (Dx (E8 t)) (i:Int) (y:Int))/\Below W3.heap.size W3 wx) (fun _ _ s _=>n3 - (intOf s).toNat)
  case atStart=>exact⟨0,4096,by omega,rfl,rfl,by omega,by omega,(fun t ht=>by cases ht),Aj _ _⟩
  obtain⟨j,z,hj,rfl,rfl,fU,fT,aM,hb⟩:=hrel;have cC:=hid aM;clear aM;have aG:=HS.o.bel hb;by_cases dJ:j < n3
  ·obtain⟨g5,r,rr,_,_,bY,d0,aE⟩:=(cF.o _ aG.on).at_ dJ;obtain⟨tj,bD,bL⟩:=ag cE.o bY;have dO:=jm (Dx (E8 tj)) (i:Int) (y:Int);injection rr with rr;injection rr with rr;subst rr;have dC:=hid (Oo r.a r.n r.c r.l (i:Int) (y:Int) wr aE.rd aE.cap (by have:=aE.few;omega) (by have:=aE.tk;omega) fO.o);rw[bL] at dC;have aD:Hd (∀ z':Int,z'<=z->z'<=Fr (Dx (E8 tj)) (i:Int) (y:Int)->∀ t∈T.take (j+1),z'<=Fr (Dx (E8 t)) (i:Int) (y:Int)):=hid fun z' h0 h1 t ht=>by
    rcases Kf bD ht with h | rfl
    ·have:=cC.o t h;omega
    exact h1
   clear bY bD bL;generalize Fr (Dx (E8 tj)) (i:Int) (y:Int)=bn at dC aD dO;have HB:=hid hb;obtain⟨ra,rn,rc,rl⟩:=r;dsimp only at d0 dC;clear aG aE hb;go_wp2_with fail;refine dC.o.mono ?_;rintro e w5⟨rfl,aB⟩;have aO:=HB.o.trans (aB.mono HB.o.size);clear aB d0;go_wp2_with fail
   all_goals
    go_roundw
    case rel =>
     refine⟨j+1,_,by omega,by go_num,rfl,?_,?_,aD.o _ ?_ ?_,aO⟩
     ·first | omega | (split <;> omega)
     ·first | omega | (split <;> omega)
     ·first | omega | (split <;> omega)
     first | omega | (split <;> omega)
    simp[intOf];omega
  have bF:n3<=j:=by omega
  obtain⟨dW,T7⟩:=aG.tp;have cD:=hid aG;clear hb aG;by_cases hz:0 < z
  ·have t1:=Ae hz;have bC:Hd (∀ t∈T,z<=Fr (Dx (E8 t)) (i:Int) (y:Int)):=hid (by
    have h:=cC.o;rw[Bd (by rw[eB.o];exact bF)] at h;exact h)
   go_upto_region 38 with fail;go_wp2_with fail;refine(D6 B b A m c f dW 2 _ wr T7 rfl (by omega) (by omega) hm).mono ?_;rintro e w5⟨k,dX,hk,rfl,T5,G5⟩;have aA:=cD.o.next T5 G5 aP bG.o;by_cases bQ:k=0
   ·subst bQ;obtain⟨m0,m1,m2⟩:=aJ.o _ aA.on;obtain⟨f1,f2,f3,f4⟩:=bH.o _ _ aA rfl;have cJ:Hd (Calls Tryz.prog 24 #[.pointer (some ⟨b,0,none⟩),.int .i64 2] w5.drew fun e w6=>∃ q:Int,e=.returned (.int .i64 q)/\(0<=q/\q<=1)/\Gv p B b A m c f (some ⟨g1,0,none⟩) A2 n1 n2 c1 c2 B1 P C W2 w6 P' C'/\w6.cell? ⟨gc,0,none⟩=some (.slice (some ⟨g1,0,none⟩) n1 c1)/\w6.cell? ⟨g1,i*11+1,none⟩=some (.int .i64 x.bud)/\w6.frozen? ⟨g1,i*11+1,none⟩=false/\w6.cell? ⟨g1,i*11+2,none⟩=some (.int .i64 x.per)/\w6.frozen? ⟨g1,i*11+2,none⟩=false):=hid (by
     have bX:=aA.bel (w':=w5.drew) (Aj _ _).drew;obtain⟨dV,T8⟩:=bX.tp;refine(D6 B b A m c f dV 2 _ w5.drew T8 rfl (by omega) (by omega) hm).mono ?_;rintro e w6⟨q,fJ,iC,rfl,T6,G6⟩;have aC:=bX.next T6 G6 aP bG.o;obtain⟨m0,m1,m2⟩:=aJ.o _ aC.on;obtain⟨f1,f2,f3,f4⟩:=bH.o _ _ aC rfl;exact⟨_,rfl,⟨by omega,by omega⟩,aC,m0,f1,f2,f3,f4⟩)
    clear aA T5 G5 T7;go_upto_region 39 with fail;go_region_with (go_at_call 24;refine cJ.o.mono ?_;rintro e w6⟨q,rfl,⟨fY,iD⟩,aC,v0,v1,v2,v3,v4⟩)
    all_goals
     have eC:=hid aC;clear aC;go_wp2;go_roundw
     case rel =>
      refine⟨i+1,_,by omega,by go_num,Gv.ask eC.o HX.o _ _ aP eJ.o eQ.o,bA.o.set HX.o fO.o,aL.o.set bC.o ?_⟩
      first | omega | (split <;> omega)
     simp[intOf];omega
   have t2:((k:Int) == 0)=false:=by simp;omega
   have aI:=hid aA;clear aA T5 G5 T7;go_wp2;go_roundw
   case rel=>exact⟨i+1,P',by omega,by go_num,aI.o,bA.o,aL.o⟩
   simp[intOf];omega
  have t1:=Ac hz;go_wp2;go_roundw
  case rel=>exact⟨i+1,P',by omega,by go_num,cD.o,bA.o,aL.o⟩
  simp[intOf];omega
 have bF:n1<=i:=by omega
 have aF:=hS.on;have cV:=eP.o.only aF;have eF:=hid (Xd A1 A2 A3 n1 n2 n3 c1 c2 c3 P' C' T wr hS.pp.rdb hS.ch.rdb cV.t (fun x hx=>by
  obtain⟨h1,x0,h0,e1,e2,e3⟩:=aH x hx;have h2:=cV.pt x0 h0;exact⟨h1,by rw[e3];exact h2.name,by rw[e2];exact h2.few,by rw[e1,e2];exact h2.procs⟩) (fun t ht=>(cV.tt t ht).1))
 obtain⟨m0,m1,m2⟩:=aJ.o _ aF;have gU:=hid hS;have cI:Hd (∀ x∈P',Ef x.per):=hid fun x hx=>(aH x hx).1;have gY:Hd (P'.map (pq wr)=P'.map (pq w)):=hid (List.map_congr_left fun x hx=>by
  obtain⟨_,x0,h0,e1,e2,e3⟩:=aH x hx;refine Wl (B:=w.heap.size) (by rw[e1,e2];exact(cO.o.pt x0 h0).procs) fun k hk e=>(eL.o.trans aF).block k hk fun fZ=>cO.o.sp x0 h0 k (by rw[<- e1];exact e) fZ)
 rw[gY.o] at eF;clear hS aF cV aH;go_wp2_with fail;refine eF.o.mono ?_;rintro e w5⟨rfl,aB⟩;obtain⟨zr,aT⟩:∃ zr,zr=(D5 (P'.map (pq w)) C' (T.map ndT)).1:=⟨_,rfl⟩;rw[<- aT];have dY:=hid aT;clear aT;have aA:=gU.o.bel aB;have aR:p b:=bG.o;have cL:Hd (∀ wx P2,Gv p B b A m c f A1 A2 n1 n2 c1 c2 B1 P C W2 wx P2 C'->(∀ x∈P2,Ef x.per)->Fi T P2->Xa w P2 C' T->fd p B b A m c f A1 A2 A3 n1 n2 n3 c1 c2 c3 P C T B1 w (.returned (.agg #[.slice A1 n1 c1,.slice A2 n2 c2,.slice A3 n3 c3])) (Fo wx (gc+1) (.slice A1 n1 c1) (.slice A2 n2 c2) (.slice A3 n3 c3))):=hid fun wx P2 h cU cQ gG=>by
  obtain⟨h1,h2,⟨gP,h3⟩,h4,h5,h6⟩:=h.res eL.o (gc+1) (.slice A1 n1 c1) (.slice A2 n2 c2) (.slice A3 n3 c3) (by have:=cK.o;omega) cH.o aR (fun k e=>(aZ.o k).2 (.inr (.inl e))) (fun k e=>(aZ.o k).2 (.inr (.inr e)));exact⟨P2,C',gP,rfl,h1,h2,h.pm,h.cm,h3,h4,cU,dA.o,cQ,h5,h6,gG⟩
 have gW:Hd (∀ wx,Only p W2 wx->Vec wx (gc+1) 3 fun j=>if j=0 then .slice none 0 0 else if j=1 then .slice none 0 0 else .slice none 0 0):=hid fun wx ho=>aY.o.keep (ho.block (gc+1) aY.o.lt (fun e=>by have:=cH.o _ e;have:=cK.o;omega)) ho.size;have cM:Hd (∀ wx P2,Gv p B b A m c f A1 A2 n1 n2 c1 c2 B1 P C W2 wx P2 C'->wx.cell? ⟨gc,0,none⟩=some (.slice A1 n1 c1)/\wx.cell? ⟨gc,1,none⟩=some (.slice A2 n2 c2)/\wx.cell? ⟨gc,2,none⟩=some (.slice A3 n3 c3)/\wx.cell? ⟨gc+1,0,none⟩=some (.slice none 0 0)/\wx.cell? ⟨gc+1,1,none⟩=some (.slice none 0 0)/\wx.cell? ⟨gc+1,2,none⟩=some (.slice none 0 0)/\wx.frozen? ⟨gc+1,0,none⟩=false/\wx.frozen? ⟨gc+1,1,none⟩=false/\wx.frozen? ⟨gc+1,2,none⟩=false/\(Fo wx (gc+1) (.slice A1 n1 c1) (.slice A2 n2 c2) (.slice A3 n3 c3)).cell? ⟨gc+1,0,none⟩=some (.slice A1 n1 c1)/\(Fo wx (gc+1) (.slice A1 n1 c1) (.slice A2 n2 c2) (.slice A3 n3 c3)).cell? ⟨gc+1,1,none⟩=some (.slice A2 n2 c2)/\(Fo wx (gc+1) (.slice A1 n1 c1) (.slice A2 n2 c2) (.slice A3 n3 c3)).cell? ⟨gc+1,2,none⟩=some (.slice A3 n3 c3)):=hid fun wx P2 h=>by
  obtain⟨a0,a1,a2⟩:=aJ.o wx h.on;have hv:=gW.o wx h.on;obtain⟨gO,gN,gM⟩:=hv.three;obtain⟨d0,d1,d2⟩:=Ns hv (.slice A1 n1 c1) (.slice A2 n2 c2) (.slice A3 n3 c3);exact⟨a0,a1,a2,gO,gN,gM,hv.thaw _,hv.thaw _,hv.thaw _,d0,d1,d2⟩
 have aI:=hid aA;clear aA aB eF m0 m1 m2 aR;by_cases dF:zr=0
 ·have cP:(zr != 0)=false:=by simp[dF]
  obtain⟨m0,m1,m2,r0,r1,r2,s0,s1,s2,d0,d1,d2⟩:=cM.o w5 _ aI.o;have D0:=hid d0;have D1:=hid d1;have D2:=hid d2;clear d0 d1 d2;go_wp2_with fail;exact Be (Ik rfl rfl D0.o D1.o D2.o) rfl (cL.o w5 _ aI.o cI.o aL.o (.inr (dY.o.symm.trans dF)))
 have cP:(zr != 0)=true:=Bz.2 dF;obtain⟨m0,m1,m2⟩:=aJ.o _ aI.o.on;go_wp2;clear m0 m1 m2;go_loopw [21,160] (fun _ s wx=>∃(i:Nat) (P2:List PtV),i<=n1/\s=.int .i64 i/\Gv p B b A m c f A1 A2 n1 n2 c1 c2 B1 P C W2 wx P2 C'/\(∀ x∈P2,Ef x.per)/\Fi T P2/\∀ k x,k < i->P2[k]? = some x->x.bud=0/\x.per=0) (fun _ s _=>n1 - (intOf s).toNat)
 case atStart=>exact⟨0,P',by omega,rfl,aI.o,cI.o,aL.o,fun k x hk=>by omega⟩
 obtain⟨i,P2,hi,rfl,hS,cU,cQ,eT⟩:=hrel;have fK:=hid eT;clear eT;have fP:=hid cU;have fL:=hid cQ;clear cU cQ;by_cases cR:i < n1
 ·obtain⟨g1,rfl,dT,bR⟩:=hS.pp.own.block (by omega);have dI:=hS.pp.len;obtain⟨x,hx⟩:∃ x,P2[i]? = some x:=⟨_,Am (by omega)⟩;have e0:=hS.pp.cell Hn (k:=1) hx (by omega) rfl;have e1:=hS.pp.cell Hn (k:=2) hx (by omega) rfl;obtain⟨f1,f2⟩:=e0;obtain⟨f3,f4⟩:=e1;obtain⟨m0,m1,m2⟩:=aJ.o _ hS.on;have bS:=(hS.bel (w':=wr.drew) (Aj _ _).drew).ask hx 0 0 aP ((aZ.o g1).2 (.inr (.inl rfl))) (dE.o g1 rfl);have aQ:=(hS.ask hx 0 0 aP ((aZ.o g1).2 (.inr (.inl rfl))) (dE.o g1 rfl));have HF:=hid bS
  have hJ:=hid (aQ.bel (Aj _ _).drew);clear bS aQ hS hx dI;go_upto_region 45 with fail;go_region
  all_goals
   go_wp2;go_roundw
   case rel =>
    refine⟨i+1,_,by omega,by go_num,by first | exact HF.o | exact hJ.o,fun u hu=>?_,fL.o.none,Xc fK.o⟩;rcases List.mem_or_eq_of_mem_set hu with hu | rfl
    ·exact fP.o u hu
    unfold Ef;dsimp only;omega
   simp[intOf];omega
 obtain⟨m0,m1,m2,r0,r1,r2,s0,s1,s2,d0,d1,d2⟩:=cM.o wr _ hS;have D0:=hid d0;have D1:=hid d1;have D2:=hid d2;have gT:=hid hS;have gQ:Hd (∀ x∈P2,x.bud=0/\x.per=0):=hid fun x hx=>by
  obtain⟨k,hk⟩:=Bl hx;exact fK.o k x (by have h1:=(Af.1 hk).1;have h2:=hS.pp.len;omega) hk
 clear d0 d1 d2 hS;go_wp2_with fail;exact Be (Ik rfl rfl D0.o D1.o D2.o) rfl (cL.o wr _ gT.o fP.o fL.o (.inl gQ.o))
theorem Tf(B b:Nat)(A:Option Addr)(m c:Nat)(f:Nat->Int)(hm:m<=140737488351232)(at_:Nat)(w:World)(T0:Eb w B b A m c f at_):
  Calls Tryz.prog 8 #[.pointer (some ⟨b,0,none⟩)] w (mn RtW B b A m c f w):=by
 have dP:=bl1 w (.cells #[.slice none 0 0,.slice none 0 0,.slice none 0 0] 31);have cA:=G9 w (.slice none 0 0) (.slice none 0 0) (.slice none 0 0) 31;have dR:=bl1 (w.alloc (.cells #[.slice none 0 0,.slice none 0 0,.slice none 0 0] 31)) (.cells #[.slice none 0 0,.slice none 0 0,.slice none 0 0] 31);have dO:=G9 (w.alloc (.cells #[.slice none 0 0,.slice none 0 0,.slice none 0 0] 31)) (.slice none 0 0) (.slice none 0 0) (.slice none 0 0) 31;have bY:(w.alloc (.cells #[.slice none 0 0,.slice none 0 0,.slice none 0 0] 31)).heap.size=w.heap.size+1:=by simp
 rw[bY] at dO;have bX:((w.alloc (.cells #[.slice none 0 0,.slice none 0 0,.slice none 0 0] 31)).alloc (.cells #[.slice none 0 0,.slice none 0 0,.slice none 0 0] 31)).heap.size=w.heap.size+1+1:=by simp
 have aN:=hid bX;have bA:=cA.on dR;have dQ:=dP.trans (dR.mono dP.size);have dU:=hid (T0.below dQ T0.lt);have dA:=hid T0.lt;have bU:=hid dQ;have bN:=hid bA;have dX:=hid dO;clear dP cA dR dO bY bA dQ T0 bX;go_in;go_upto_region 2 with fail;generalize (w.alloc (.cells #[.slice none 0 0,.slice none 0 0,.slice none 0 0] 31)).alloc (.cells #[.slice none 0 0,.slice none 0 0,.slice none 0 0] 31)=W at dU bU bN dX aN |-;obtain⟨gr,cG⟩:∃ gr,gr=w.heap.size:=⟨_,rfl⟩;rw[<- cG] at bN dX dA aN |-;have hJ:=hid cG;clear cG;go_wp2_with fail;have eU:CfgB b w gr (gr+1) W.heap.size:=⟨dA.o,hJ.o,rfl,aN.o⟩;have aB:=hid eU;have eP:CfgS B b A m c f w gr (gr+1) W.heap.size none none none 0 0 0 0 0 0 [] [] [] W:=⟨⟨_,dU.o⟩,⟨bU.o.os,bU.o.tape,bU.o.output,bU.o.size,fun k hk _=>bU.o.block k hk⟩,dX.o,bN.o,Ey.nil _ _ _ _,Ey.nil _ _ _ _,Ey.nil _ _ _ _,(fun x hx=>by cases hx),(fun x hx=>by cases hx),(fun k e=>by cases e),(fun k e=>by cases e),(fun k e=>by cases e)⟩;have gV:=hid eP;clear eU eP;refine(D6 B b A m c f at_ 4 _ W dU.o rfl (by omega) (by omega) hm).mono ?_;rintro e w1⟨k0,iY,cQ,rfl,T1,G1⟩;have eO:=gV.o.next aB.o T1 G1;clear T1 G1;go_wp2;go_loopw [5,6,7,8] (fun s _ _ _ wx=>∃(i c1:Nat) (A1:Option Addr) (P:List PtV),i<=1+k0/\s=.int .i64 i/\CfgS B b A m c f w gr (gr+1) W.heap.size A1 none none i 0 0 c1 0 0 P [] [] wx/\Tn P) (fun s _ _ _ _=>1+k0 - (intOf s).toNat)
 case atStart=>exact⟨0,0,none,[],by omega,rfl,eO,fun i x hx=>by cases hx⟩
 obtain⟨i,c1,A1,P,hi,rfl,hS,cI⟩:=hrel;have dY:=hid cI;clear cI;clear eO;by_cases cF:i < 1+k0
 ·have fR:(i:Int) < 1+(k0:Int):=by omega
  have HS:=hid hS;obtain⟨bT,T2⟩:=hS.tp;clear hS;go_upto_region 6 with fail;go_cut [6] from 21 to 33 (fun s6 wx=>∃(gx:Nat) (nm:ByteArray) (sc st:Bool),s6=.pointer (some ⟨gx,0,none⟩)/\nm=nmL i/\wr.heap.size<=gx/\Only (fun k=>k=b) wr wx/\Vec wx gx 11 (fun j=>(pcl ⟨nm,0,0,sc,st,none,0,0,0,0,0,0,0⟩)[j]?.getD (.bool false))/\CfgS B b A m c f w gr (gr+1) W.heap.size A1 none none i 0 0 c1 0 0 P [] [] wx)
  case first =>
   rcases(by omega:i=0\/i=1\/i=2\/i=3) with rfl | rfl | rfl | rfl
   ·go_wp2_with fail;refine(D6 B b A m c f bT 5 _ wr T2 rfl (by omega) (by omega) hm).mono ?_;rintro e w2⟨k1,aR,_,rfl,T3,G3⟩;have aQ:=HS.o.next aB.o T3 G3;have aO:=hid aQ;have bP:=hid (Only.gb (p:=fun k=>k=b) G3 rfl);have bR:=hid G3.size;clear aQ G3 T2;go_wp2_with fail;refine(D6 B b A m c f aR 8 _ w2 T3 rfl (by omega) (by omega) hm).mono ?_;rintro e w3⟨k2,cY,_,rfl,T4,G4⟩;have aG:=aO.o.next aB.o T4 G4;have bM:=hid aG;have bO:=hid (bP.o.trans (Only.gb (p:=fun k=>k=b) G4 rfl));have bQ:=hid (Ai bR.o G4.size);clear aG G4 T3 T4 aO;go_wp2_with fail;go_meet
    case rel =>
     exact⟨w3.heap.size,({ data:=#[112] }:ByteArray)++Utf8.encode 97,((k1:Int) == 0),((k2:Int) == 0),rfl,rfl,bQ.o,bO.o.trans (Only.bel (bl1 w3 _)),Vec.lit w3 _ _ 11 _ (fun j hj=>by rcases(by omega:j=0\/j=1\/j=2\/j=3\/j=4\/j=5\/j=6\/j=7\/j=8\/j=9\/j=10) with rfl | rfl | rfl | rfl | rfl | rfl | rfl | rfl | rfl | rfl | rfl <;> rfl),bM.o.bel aB.o (bl1 w3 _)⟩
   ·go_wp2_with fail;refine(D6 B b A m c f bT 5 _ wr T2 rfl (by omega) (by omega) hm).mono ?_;rintro e w2⟨k1,aR,_,rfl,T3,G3⟩;have aQ:=HS.o.next aB.o T3 G3;have aO:=hid aQ;have bP:=hid (Only.gb (p:=fun k=>k=b) G3 rfl);have bR:=hid G3.size;clear aQ G3 T2;go_wp2_with fail;refine(D6 B b A m c f aR 8 _ w2 T3 rfl (by omega) (by omega) hm).mono ?_;rintro e w3⟨k2,cY,_,rfl,T4,G4⟩;have aG:=aO.o.next aB.o T4 G4;have bM:=hid aG;have bO:=hid (bP.o.trans (Only.gb (p:=fun k=>k=b) G4 rfl));have bQ:=hid (Ai bR.o G4.size);clear aG G4 T3 T4 aO;go_wp2_with fail;go_meet
    case rel =>
     exact⟨w3.heap.size,({ data:=#[112] }:ByteArray)++Utf8.encode 98,((k1:Int) == 0),((k2:Int) == 0),rfl,rfl,bQ.o,bO.o.trans (Only.bel (bl1 w3 _)),Vec.lit w3 _ _ 11 _ (fun j hj=>by rcases(by omega:j=0\/j=1\/j=2\/j=3\/j=4\/j=5\/j=6\/j=7\/j=8\/j=9\/j=10) with rfl | rfl | rfl | rfl | rfl | rfl | rfl | rfl | rfl | rfl | rfl <;> rfl),bM.o.bel aB.o (bl1 w3 _)⟩
   ·go_wp2_with fail;refine(D6 B b A m c f bT 5 _ wr T2 rfl (by omega) (by omega) hm).mono ?_;rintro e w2⟨k1,aR,_,rfl,T3,G3⟩;have aQ:=HS.o.next aB.o T3 G3;have aO:=hid aQ;have bP:=hid (Only.gb (p:=fun k=>k=b) G3 rfl);have bR:=hid G3.size;clear aQ G3 T2;go_wp2_with fail;refine(D6 B b A m c f aR 8 _ w2 T3 rfl (by omega) (by omega) hm).mono ?_;rintro e w3⟨k2,cY,_,rfl,T4,G4⟩;have aG:=aO.o.next aB.o T4 G4;have bM:=hid aG;have bO:=hid (bP.o.trans (Only.gb (p:=fun k=>k=b) G4 rfl));have bQ:=hid (Ai bR.o G4.size);clear aG G4 T3 T4 aO;go_wp2_with fail;go_meet
    case rel =>
     exact⟨w3.heap.size,({ data:=#[112] }:ByteArray)++Utf8.encode 99,((k1:Int) == 0),((k2:Int) == 0),rfl,rfl,bQ.o,bO.o.trans (Only.bel (bl1 w3 _)),Vec.lit w3 _ _ 11 _ (fun j hj=>by rcases(by omega:j=0\/j=1\/j=2\/j=3\/j=4\/j=5\/j=6\/j=7\/j=8\/j=9\/j=10) with rfl | rfl | rfl | rfl | rfl | rfl | rfl | rfl | rfl | rfl | rfl <;> rfl),bM.o.bel aB.o (bl1 w3 _)⟩
   go_wp2_with fail;refine(D6 B b A m c f bT 5 _ wr T2 rfl (by omega) (by omega) hm).mono ?_;rintro e w2⟨k1,aR,_,rfl,T3,G3⟩;have aQ:=HS.o.next aB.o T3 G3;have aO:=hid aQ;have bP:=hid (Only.gb (p:=fun k=>k=b) G3 rfl);have bR:=hid G3.size;clear aQ G3 T2;go_wp2_with fail;refine(D6 B b A m c f aR 8 _ w2 T3 rfl (by omega) (by omega) hm).mono ?_;rintro e w3⟨k2,cY,_,rfl,T4,G4⟩;have aG:=aO.o.next aB.o T4 G4;have bM:=hid aG;have bO:=hid (bP.o.trans (Only.gb (p:=fun k=>k=b) G4 rfl));have bQ:=hid (Ai bR.o G4.size);clear aG G4 T3 T4 aO;go_wp2_with fail;go_meet
   case rel =>
    exact⟨w3.heap.size,({ data:=#[112] }:ByteArray)++Utf8.encode 100,((k1:Int) == 0),((k2:Int) == 0),rfl,rfl,bQ.o,bO.o.trans (Only.bel (bl1 w3 _)),Vec.lit w3 _ _ 11 _ (fun j hj=>by rcases(by omega:j=0\/j=1\/j=2\/j=3\/j=4\/j=5\/j=6\/j=7\/j=8\/j=9\/j=10) with rfl | rfl | rfl | rfl | rfl | rfl | rfl | rfl | rfl | rfl | rfl <;> rfl),bM.o.bel aB.o (bl1 w3 _)⟩
  obtain⟨gx,nm,sc,st,rfl,bG,eK,gL,hV,hS⟩:=hcut;have fO:nm.size<=16:=by
   rw[bG];rcases(by omega:i=0\/i=1\/i=2\/i=3) with rfl | rfl | rfl | rfl <;> exact Nat.le_of_ble_eq_true (by kernel_rfl)
  have dW:=hid bG;clear bG;have gZ:Hd (P.length=i):=hid hS.pp.len;obtain⟨wo,dD⟩:∃ wo,wo=wr:=⟨wr,rfl⟩;subst dD;have iA:Hd (∀ k,obk A1=some k->k < gx):=hid (fun k e=>by have:=(HS.o.pp.own.obk_ge e).2;omega);have bH:b < wo.heap.size:=T2.lt;have bI:b < gx:=by omega
  have fB:Hd (W.heap.size<=gx):=hid (by have h1:=HS.o.cf.lt;have h2:=aN.o;omega);have gW:Hd (Rnd B b A m c f wo wc):=hid ⟨gL,hS.tp⟩;obtain⟨aR,T3⟩:=hS.tp;have eX:=hid hV;clear hS hV T2;go_wp2_with fail;refine(D6 B b A m c f aR 2 _ wc T3 rfl (by omega) (by omega) hm).mono ?_;rintro e w2⟨k3,cY,dJ,rfl,T4,G4⟩;have aG:=trivial;have eM:=eX.o.keep (G4.block gx eX.o.lt (fun e=>by injection e with e;omega)) G4.size;have HR:=hid (show Rnd B b A m c f wo w2 from ⟨gW.o.on.trans (Only.gb G4 rfl),⟨_,T4⟩⟩);have eS:Iy gx ⟨nm,0,0,sc,st,none,0,0,0,0,0,0,0⟩ [] w2:=⟨eM,OwnV.nil _ _ _ _⟩;have fZ:Jr ⟨nm,0,0,sc,st,none,0,0,0,0,0,0,0⟩:=by unfold Jr;dsimp only;omega
  have dV:=hid eS;clear eM eS T4 G4 aG T3;go_wp2;go_loopw [7] (fun s wx=>∃(k:Int) (x:PtV) (L:List (Int×Int)),s=.int .i64 k/\-1<=k/\k<=1/\(x.pn:Int)+k=(k3:Int)/\((x.per=0/\x.bud=0)/\x.name=nm/\Jr x/\∀ q∈L,Pk q.1 q.2)/\x.name.size<=16/\Rnd B b A m c f wo wx/\Iy gx x L wx) (fun s _=>(intOf s+1).toNat)
  case atStart=>exact⟨k3,_,[],rfl,by omega,by omega,by show ((0:Nat):Int)+_=_;omega,⟨⟨rfl,rfl⟩,rfl,fZ,fun q hq=>by cases hq⟩,fO,HR.o,dV.o⟩
  obtain⟨k,x,L,rfl,iO,iN,dG,aA,aV,hR,hS⟩:=hrel;by_cases fS:0<=k
  ·have fM:x.pn<=1:=by omega
   clear HR dV;go_wp2_with fail;refine Rgs.region (by kernel_rfl) (by kernel_rfl) (PcV b gx x L) (fun live _=>PcW B b A m c f wo gx x L live) ⟨hR.bel bH (Aj _ _).drew,hS.ve.lt,fun _=>hS.ve.drewN 1,fun _=>hS.pr⟩ (Rgs.steps_of ?_) ?_
   ·refine⟨?_,?_,?_,?_,?_,?_,?_,?_,?_,?_,?_,?_,trivial⟩<;>intro a w1 live S E D C h0 hk hW
    ·have e6:a.eval _=.pointer (some ⟨gx,0,none⟩):=E 6 rfl;exact Dw (hW.upd _)
    ·have d0:_=_:=Du D 0;have dB:=D3 C h0 [9] 11 rfl;have hc:=(hW.ve dB).cell 5 (by omega);have gG:w1.cell? ⟨gx,5,none⟩=some (.slice x.pa x.pn x.pc):=hc;clear hc;exact Dw (hW.upd _)
    ·have e0:a.eval _=.pointer (some ⟨b,0,none⟩):=E 0 rfl;exact Dw (hW.upd _)
    ·have d2:_=_:=Du D 2;obtain⟨aH,T5⟩:=hW.rn.tp;refine Ei 24 #[.pointer (some ⟨b,0,none⟩),.int .i64 6] ?_;refine(D6 B b A m c f aH 6 _ w1 T5 rfl (by omega) (by omega) hm).mono ?_;rintro e w5⟨k5,bL,aX,rfl,T6,G6⟩;exact⟨_,rfl,⟨k5,aX,rfl⟩,(hW.next bI T6 G6).upd _,fun j v _ h=>h.gb bI G6 j v⟩
    ·obtain⟨k3,dJ,d3⟩:=Du D 3;have h4:IntKind.i64.wrap (4*(k3:Int))=4*(k3:Int):=wrap_small _ (by omega) (by omega);exact K9 (.int .i64 (4*(k3:Int))) (⟨_,rfl,by omega,by omega⟩) (hW.upd _)
    ·have e0:a.eval _=.pointer (some ⟨b,0,none⟩):=E 0 rfl;exact Dw (hW.upd _)
    ·have d5:_=_:=Du D 5;obtain⟨aH,T5⟩:=hW.rn.tp;refine Ei 24 #[.pointer (some ⟨b,0,none⟩),.int .i64 4] ?_;refine(D6 B b A m c f aH 4 _ w1 T5 rfl (by omega) (by omega) hm).mono ?_;rintro e w5⟨k5,bL,aX,rfl,T6,G6⟩;exact⟨_,rfl,⟨_,rfl,by omega,by omega⟩,(hW.next bI T6 G6).upd _,fun j v _ h=>h.gb bI G6 j v⟩
    ·obtain⟨k4,d4,u1,u2⟩:=Du D 4;obtain⟨k6,d6,u3,u4⟩:=Du D 6;have gJ:Tryz.prog.built 62 [(0,.int .i64 k4),(1,.int .i64 k6)]=some #[.int .i64 k4,.int .i64 k6]:=by rfl
     exact K9 (.agg #[.int .i64 k4,.int .i64 k6]) (⟨_,_,rfl,u1,u2,u3,u4⟩) (hW.upd _)
    ·obtain⟨p7,q7,d7,u7⟩:=Du D 7;have l9:=D3 C h0 [] 9 rfl;refine Fd (.slice (some ⟨w1.heap.size,0,none⟩) 1 1) (w1.alloc (.cells #[.int .i64 p7,.int .i64 q7] 62)) ⟨w1.heap.size,p7,q7,rfl,hW.lt,by simp,fun e=>by have:=((hW.pr l9).obk_ge e).2;omega,by simp[Ab],by simp[Ab],u7⟩ ((hW.bel bH (bl1 _ _)).upd _) (fun j v _ h=>h.bel (bl1 _ _) j v)
    ·have d1:_=_:=Du D 1;obtain⟨g,p8,q8,d8,cV,cU,cR,aJ,dM,u8⟩:=Du D 8;have fL:=hW.pr h0;have cF:=hW.lt;have dB:=D3 C h0 [] 11 rfl;obtain⟨A',c',w',bF,h1,h2,h3⟩:=Gn mg w1 (gx+1) x.pa x.pn x.pc _ fL ⟨g,0,none⟩ 1 1 [.int .i64 p8,.int .i64 q8] w1.heap.size (jr aJ dM) rfl (by omega) (Q6 [(p8,q8)]) (by omega) (by unfold maxLen;omega) (by omega);refine Rgs.grow rfl (Reg.wanted_free rfl) (.slice A' (x.pn+1:Nat) c') w' ?_ ⟨A',c',(p8,q8),rfl,by rw[Bu];exact h1,u8⟩ ⟨hW.rn.blw (g:=gx+1) (by omega) (by omega) h2,Bc cF h2.size,fun e=>(hW.ve (Rgs.upd_off e)).below h2 (by omega),fun e=>absurd e (by rw[Rgs.upd_self];decide)⟩ ?_
     ·have c:=Reg.consts a;generalize a.eval=ρ at *;simp only[execOp,resolve,invoke,builtin,Sem.run_bind,Sem.run_pure,At,Cs,Cp,Da,d1,d8,bF]
     intro j v hj h;refine h.keep h2.size j v fun k hk hl=>?_;rcases hk with ⟨rfl,_⟩ | ⟨rfl,_⟩ | ⟨rfl,_,aU⟩
     ·rw[dB] at hj;cases hj
     ·rw[h0] at hj;cases hj
     exact h3.gb.block k hl (fun e=>aU e.symm)
    ·have e6:a.eval _=.pointer (some ⟨gx,0,none⟩):=E 6 rfl;exact Dw (hW.upd _)
    obtain⟨A',c',q9,d9,h1,u9⟩:=Du D 9;have eW:_=_:=Du D 10;have dE:=hW.ve h0;have dN:w1.cell? ⟨gx,5,none⟩=some (.slice x.pa x.pn x.pc):=dE.cell 5 (by omega);have bS:=dE.thaw 5;have gN:∀ g,A'=some ⟨g,0,none⟩->g≠gx:=fun g e e2=>by have:=(h1.obk_ge (b:=g) (by rw[e];rfl)).1;omega
    have aD:Below gx w1 (w1.setCell ⟨gx,5,none⟩ (.slice A' (x.pn+1:Nat) c')):=(Aj _ _).setCell (p:=⟨gx,5,none⟩) (Ag _) _;refine Rgs.store rfl (Reg.wanted_free rfl) (w1.setCell ⟨gx,5,none⟩ (.slice A' (x.pn+1:Nat) c')) ?_ ⟨A',c',q9,⟨(dE.set 5 _).congr fun j hj=>?_,h1.other _ _ gN⟩,u9⟩ ⟨hW.rn.blw eK bI aD,by simpa using hW.lt,fun e=>absurd e (by rw[Rgs.upd_self];decide),fun e=>absurd (Rgs.upd_off e) (by rw[hk 9 rfl];decide)⟩ ?_
    ·have c:=Reg.consts a;generalize a.eval=ρ at *;simp[execOp,go_sem,c.1,c.2,d9,eW,dN,bS]
    ·rcases(by omega:j=0\/j=1\/j=2\/j=3\/j=4\/j=5\/j=6\/j=7\/j=8\/j=9\/j=10) with rfl | rfl | rfl | rfl | rfl | rfl | rfl | rfl | rfl | rfl | rfl <;> rfl
    intro j v hj h;refine h.keep (by simp) j v fun k hk hl=>Bn _ _ _ _ ?_;rcases hk with ⟨rfl,_⟩ | ⟨rfl,cF⟩ | ⟨rfl,cF,_⟩
    ·rw[h0] at hj;cases hj
    all_goals exact fun e=>by have e:k=gx:=e;omega
   intro a w3 live hs hd E D Hl hW;obtain⟨A',c',q',hP,eE⟩:PcV b gx x L 11 undef w3:=by
    obtain⟨iC,hv,_⟩:=D 11 _ rfl;exact hv
   rw[Rgs.act_ws a _ _ hs hd E [39,40,41,42,43,44,45,46,47,48,49] (by kernel_rfl)];simp only[List.foldl,Bg,Bv,Bp];have HP:=hid hP;have bC:=hid hW.rn;clear E D Hl hW hP;generalize a.eval=ρ;clear a hs hd;go_wp2;go_roundw
   case rel=>exact⟨k - 1,{ x with pa:=A',pn:=x.pn+1,pc:=c' },L++[q'],by go_num,by omega,by omega,by show ((x.pn+1:Nat):Int)+(k - 1)=_;omega,⟨aA.1,aA.2.1,aA.2.2.1,fun q hq=>by
     rcases Ay.1 hq with hq | hq
     ·exact aA.2.2.2 q hq
     simp at hq;subst hq;exact eE⟩,aV,bC.o,HP.o⟩
   simp[intOf];omega
  have fA:=hid hR;have cL:=hid hS;clear hR hS HR dV;go_wp2;go_loopw [8,50] (fun _ s wx=>∃(j:Nat) (x:PtV) (L:List (Int×Int)),j<=5/\s=.int .i64 j/\((x.per=0/\x.bud=0)/\x.name=nm/\Jr x/\∀ q∈L,Pk q.1 q.2)/\(1<=x.pn/\x.pn<=2)/\x.name.size<=16/\Rnd B b A m c f wo wx/\Iy gx x L wx) (fun _ s _=>5 - (intOf s).toNat)
  case atStart=>exact⟨0,x,L,by omega,rfl,aA,⟨by omega,by omega⟩,aV,fA.o,cL.o⟩
  obtain⟨j,x,L,hj,rfl,aA,dG,aV,hR,hS⟩:=hrel;clear fA cL;by_cases fW:j < 5
  ·have dK:(j:Int) < 5:=by omega
   obtain⟨aH,T5⟩:=hR.tp;have aD:=bl1 wr (.cells #[.int .i64 0,.int .i64 1,.int .i64 0,.int .i64 2,.int .i64 1] 3);have T6:=T5.below aD T5.lt;have aT:Vec (wr.alloc (.cells #[.int .i64 0,.int .i64 1,.int .i64 0,.int .i64 2,.int .i64 1] 3)) wr.heap.size 5 (fun i=>(#[.int .i64 0,.int .i64 1,.int .i64 0,.int .i64 2,.int .i64 1]:Array Value)[i]?.getD (.int .i64 0)):=Vec.lit wr _ _ 5 _ fun i hi=>by
    rcases(by omega:i=0\/i=1\/i=2\/i=3\/i=4) with rfl | rfl | rfl | rfl | rfl <;> rfl
   have gH:b < wr.heap.size:=T5.lt;have dT:=hid aT;have cM:=hid (hR.bel bH aD);have aO:=hid (hS.bel aD);clear hR hS T5 aD aT;go_wp2_with fail;refine(D6 B b A m c f aH 5 _ _ T6 rfl (by omega) (by omega) hm).mono ?_;rintro e w5⟨k5,cX,aX,rfl,T7,G7⟩;have aG:=aO.o.gb G7 bI;have eR:=cM.o.next T7 G7;have aT:=dT.o.keep (G7.block wr.heap.size dT.o.lt (fun e=>by injection e with e;omega)) G7.size;obtain⟨z,hz,fG⟩:∃ z,w5.cell? ⟨wr.heap.size,k5,none⟩=some (.int .i64 z)/\(0<=z/\z<=2):=by
    rcases(by omega:k5=0\/k5=1\/k5=2\/k5=3\/k5=4) with rfl | rfl | rfl | rfl | rfl
    ·exact⟨_,aT.cell 0 (by omega),by omega,by omega⟩
    ·exact⟨_,aT.cell 1 (by omega),by omega,by omega⟩
    ·exact⟨_,aT.cell 2 (by omega),by omega,by omega⟩
    ·exact⟨_,aT.cell 3 (by omega),by omega,by omega⟩
    exact⟨_,aT.cell 4 (by omega),by omega,by omega⟩
   have bS:=aG.ve.thaw (6+j);have dN:=aG.ve.cell (6+j) (by omega);obtain⟨x',f1,f2,_,f3,gR,f4,f5,eN⟩:=aG.heal fW z fG aA.2.2.1;have cJ:Below gx w5 (w5.setCell ⟨gx,6+j,none⟩ (.int .i64 z)):=(Aj _ _).setCell (p:=⟨gx,6+j,none⟩) (Ag _) _;have gX:=hid (eR.blw eK bI cJ);have gU:=hid eN;have fU:(k5:Int) < 5:=by omega
   generalize wr.heap.size=gl at hz |-;generalize pvf x (6+j)=vo at dN;clear aG eR aT eN cJ T6 T7 G7 dT cM aO;go_wp2;go_roundw
   case rel=>exact⟨j+1,x',L,by omega,by go_num,⟨by rw[f3,gR];exact aA.1,by rw[f4];exact aA.2.1,f5,aA.2.2.2⟩,by rw[f2];exact dG,by rw[f4];exact aV,gX.o,gU.o⟩
   simp[intOf];omega
  have dK:¬ (j:Int) < 5:=by omega
  have hC:=HS.o.only aB.o hR.on hR.tp;have cD:∀ w',wr.heap.size<=w'.heap.size->Iy gx x L w'->Ov w' w'.heap.size x/\∀ k,obk x.pa=some k->W.heap.size<=k/\k < w'.heap.size/\obk A1≠some k/\obk (none:Option Addr)≠some k/\obk (none:Option Addr)≠some k:=fun w' hw eQ=>by
   refine⟨⟨by rw[aA.1.1];constructor <;> omega,by omega,by omega,eQ.at_ aA.2.2.2⟩,fun k hk=>?_⟩;have h1:=eQ.pr.obk_ge hk;have h2:=fB.o;exact⟨by omega,h1.2,fun e=>by have:=iA.o k e;omega,nofun,nofun⟩
  have gY:Hd (Tn (P++[x])):=hid (dY.o.more gZ.o ⟨aA.2.1.trans dW.o,aA.1.2,aA.1.1,aA.2.2.1,dG,hS.pr.cap⟩);obtain⟨nm,bu,pe,sc,st,pa,pn,pc,h0,h1,h2,h3,h4⟩:=x;have q0:=hS.ve.cell 0 (by omega);have q1:=hS.ve.cell 1 (by omega);have q2:=hS.ve.cell 2 (by omega);have q3:=hS.ve.cell 3 (by omega);have q4:=hS.ve.cell 4 (by omega);have q5:=hS.ve.cell 5 (by omega);have q6:=hS.ve.cell 6 (by omega);have q7:=hS.ve.cell 7 (by omega);have q8:=hS.ve.cell 8 (by omega);have q9:=hS.ve.cell 9 (by omega);have fD:=hS.ve.cell 10 (by omega);simp only[pvf,pcl,C9,List.getElem?_cons_zero,Bq] at q0 q1 q2 q3 q4 q5 q6 q7 q8 q9 fD;have aD:=bl1 wr (.cells #[.string nm,.int .i64 bu,.int .i64 pe,.bool sc,.bool st,.slice pa pn pc,.int .i64 h0,.int .i64 h1,.int .i64 h2,.int .i64 h3,.int .i64 h4] 60);have aE:=hC.bel aB.o aD;have dS:=hS.bel aD;have cC:=rdV_new wr #[.string nm,.int .i64 bu,.int .i64 pe,.bool sc,.bool st,.slice pa pn pc,.int .i64 h0,.int .i64 h1,.int .i64 h2,.int .i64 h3,.int .i64 h4] 60 ([(⟨nm,bu,pe,sc,st,pa,pn,pc,h0,h1,h2,h3,h4⟩:PtV)].flatMap pcl) rfl;have m0:wr.cell? ⟨gr+1,0,none⟩=some (.slice A1 i c1):=hC.cf.cell 0 (by omega);have aI:=aE.pp.own;have cH:=aE.cf.lt;have aC:gr+1 < W.heap.size:=by have:=aN.o;omega
  have bZ:W.heap.size<=(wr.alloc (.cells #[.string nm,.int .i64 bu,.int .i64 pe,.bool sc,.bool st,.slice pa pn pc,.int .i64 h0,.int .i64 h1,.int .i64 h2,.int .i64 h3,.int .i64 h4] 60)).heap.size:=by
   have h1:=fB.o;have h2:=dS.ve.lt;omega
  have cK:Hd (∀ w4,Below W.heap.size (wr.alloc (.cells #[.string nm,.int .i64 bu,.int .i64 pe,.bool sc,.bool st,.slice pa pn pc,.int .i64 h0,.int .i64 h1,.int .i64 h2,.int .i64 h3,.int .i64 h4] 60)) w4->w4.cell? ⟨gr+1,0,none⟩=some (.slice A1 i c1)/\w4.frozen? ⟨gr+1,0,none⟩=false):=hid fun w4 aM =>
   ⟨(aM.cell (p:=⟨gr+1,0,none⟩) aC).trans (aE.cf.cell 0 (by omega)),(aM.frozen (p:=⟨gr+1,0,none⟩) aC).trans (aE.cf.thaw 0)⟩
  have bD:Hd (∀ A4 c4 w4,OwnV 60 11 w4 W.heap.size A4 (i+1) c4 ((P++[(⟨nm,bu,pe,sc,st,pa,pn,pc,h0,h1,h2,h3,h4⟩:PtV)]).flatMap pcl)->Grew A1 A4 (wr.alloc (.cells #[.string nm,.int .i64 bu,.int .i64 pe,.bool sc,.bool st,.slice pa pn pc,.int .i64 h0,.int .i64 h1,.int .i64 h2,.int .i64 h3,.int .i64 h4] 60)) w4->CfgS B b A m c f w gr (gr+1) W.heap.size A4 none none (i+1) 0 0 c4 0 0 (P++[⟨nm,bu,pe,sc,st,pa,pn,pc,h0,h1,h2,h3,h4⟩]) [] [] (w4.setCell ⟨gr+1,0,none⟩ (.slice A4 (i+1:Nat) c4))):=hid fun A4 c4 w4 cE aJ =>
   aE.part aB.o aJ cE (cD _ aD.size dS)
  clear hC aE hS dS hR aD cH cD;go_wp2_with (at_builtin;go_loud (refine Ea mf rfl (.tmp 63) (.tmp 65) rfl rfl W.heap.size A1 i c1 _ rfl aI _ 1 1 _ _ rfl cC rfl Cv (Wn _) (by omega) (by unfold maxLen;omega) bZ (i+1) rfl ((P++[(⟨nm,bu,pe,sc,st,pa,pn,pc,h0,h1,h2,h3,h4⟩:PtV)]).flatMap pcl) (by rw[Bu]) ?_;intro A4 c4 w4 bW aM aJ;obtain⟨z0,z1⟩:=cK.o w4 aM));go_roundw
  case rel=>exact⟨i+1,c4,A4,_,by omega,by go_num,bD.o A4 c4 w4 bW aJ,gY.o⟩
  simp[intOf];omega
 have eJ:1<=i:=by omega
 have fX:i<=4:=by omega
 have gC:¬ (i:Int) < 1+(k0:Int):=by omega
 have e4:1+(k0:Int)=(i:Int):=by omega
 obtain⟨bT,T2⟩:=hS.tp;have HS:=hid hS;clear hS;go_wp2_with fail;refine(D6 B b A m c f bT 4 _ wr T2 rfl (by omega) (by omega) hm).mono ?_;rintro e w2⟨k4,aR,iM,rfl,T3,G3⟩;have cL:=hid (HS.o.next aB.o T3 G3);clear T2 T3 G3 HS;go_wp2;clear e4 gC cF hi cQ;go_loopw [9,10,11] (fun s _ _ wx=>∃(k:Int) (n2 c2:Nat) (A2:Option Addr) (C:List ChV),s=.int .i64 k/\0<=k/\k+n2<=3/\(∀ x∈C,Xb i x)/\CfgS B b A m c f w gr (gr+1) W.heap.size A1 A2 none i n2 0 c1 c2 0 P C [] wx) (fun s _ _ _=>(intOf s).toNat)
 case atStart=>exact⟨k4,0,0,none,[],rfl,by omega,by omega,(fun x hx=>by cases hx),cL.o⟩
 obtain⟨k,n2,c2,A2,C,rfl,iK,fS,eT,hS⟩:=hrel;clear cL;have cO:=hid eT;clear eT;by_cases gB:0 < k/\1 < i
 ·obtain⟨cQ,fY⟩:=gB;have dL:(1:Int) < (i:Int):=by omega
  obtain⟨wo,dD⟩:∃ wo,wo=wr:=⟨wr,rfl⟩;subst dD;obtain⟨aH,T5⟩:=hS.tp;have aF:b < wo.heap.size:=T5.lt;have HS:=hid hS;clear hS;go_wp2_with fail;refine(D6 B b A m c f aH i _ wo T5 rfl (by omega) (by omega) hm).mono ?_;rintro e w3⟨fr,bL,bS,rfl,T6,G6⟩;have cM:Hd (Rnd B b A m c f wo w3):=hid ⟨Only.gb G6 rfl,⟨_,T6⟩⟩;clear T5 T6 G6;go_wp2_with fail;refine Rgs.region (by kernel_rfl) (by kernel_rfl) (Oz b wo.heap.size i fr) (Mj B b A m c f wo i) ⟨cM.o.bel aF (Aj _ _).drew,(fun e=>absurd e (by decide)),(fun e=>absurd e (by decide))⟩ (Rgs.steps_of ?_) ?_
  ·refine⟨?_,?_,?_,?_,?_,?_,?_,?_,?_,?_,?_,?_,?_,?_,?_,?_,?_,?_,?_,?_,?_,trivial⟩<;>intro a w1 live S E D C h0 hk hW
   ·have gS:a.eval _=.int .i64 (fr:Int):=E 10 rfl;exact Dw hW.up
   ·have gS:a.eval _=.int .i64 (fr:Int):=E 10 rfl;exact Dw hW.up
   ·have d1:_=_:=Du D 1;have h4:IntKind.i64.wrap ((fr:Int)+1)=(fr:Int)+1:=wrap_small _ (by omega) (by omega);exact Dw hW.up
   ·have e0:a.eval _=.pointer (some ⟨b,0,none⟩):=E 0 rfl;exact Dw hW.up
   ·have e4:a.eval _=.int .i64 (i:Int):=E 4 rfl;exact Dw hW.up
   ·have d4:_=_:=Du D 4;have h4:IntKind.i64.wrap ((i:Int) - 1)=(i:Int) - 1:=wrap_small _ (by omega) (by omega);exact Dw hW.up
   ·have d3:_=_:=Du D 3;have d5:_=_:=Du D 5;obtain⟨aH,T5⟩:=hW.rn.tp;refine Ei 24 #[.pointer (some ⟨b,0,none⟩),.int .i64 ((i:Int) - 1)] ?_;refine(D6 B b A m c f aH (i - 1) _ w1 T5 (by omega) (by omega) (by omega) hm).mono ?_;rintro e w5⟨k5,bL,aX,rfl,T6,G6⟩;exact⟨_,rfl,⟨k5,aX,rfl⟩,(hW.next aF T6 G6).upd 6 87 _ (by decide) (by decide),fun j v _ h=>h.gb aF G6 j v⟩
   ·have d2:_=_:=Du D 2;obtain⟨k6,fT,d6⟩:=Du D 6;have h4:IntKind.i64.wrap ((fr:Int)+1+(k6:Int))=(fr:Int)+1+(k6:Int):=wrap_small _ (by omega) (by omega);exact K9 (.int .i64 ((fr:Int)+1+(k6:Int))) (⟨k6,fT,rfl⟩) hW.up
   ·have e4:a.eval _=.int .i64 (i:Int):=E 4 rfl;exact Dw hW.up
   ·obtain⟨k7,eH,d7⟩:=Du D 7;have d8:_=_:=Du D 8;have aU:¬ (i:Int)=0:=by omega
    have fP:¬ i=0:=by omega
    have iF:((fr:Int)+1+(k7:Int)).tmod (i:Int)=(((fr+1+k7) % i:Nat):Int):=by rw[show (fr:Int)+1+(k7:Int)=((fr+1+k7:Nat):Int) by omega];rfl
    exact K9 (.int .i64 (((fr+1+k7) % i:Nat):Int)) (⟨_,⟨Nat.mod_lt _ (by omega),ah bS eH⟩,rfl⟩) hW.up
   ·have e0:a.eval _=.pointer (some ⟨b,0,none⟩):=E 0 rfl;exact Dw hW.up
   ·have eW:_=_:=Du D 10;obtain⟨aH,T5⟩:=hW.rn.tp;refine Ei 24 #[.pointer (some ⟨b,0,none⟩),.int .i64 2] ?_;refine(D6 B b A m c f aH 2 _ w1 T5 rfl (by omega) (by omega) hm).mono ?_;rintro e w5⟨k5,bL,aX,rfl,T6,G6⟩;exact⟨_,rfl,⟨_,rfl⟩,(hW.next aF T6 G6).upd 11 92 _ (by decide) (by decide),fun j v _ h=>h.gb aF G6 j v⟩
   ·obtain⟨fF,iW⟩:=Du D 11;exact K9 (.bool (fF == 0)) (⟨_,rfl⟩) hW.up
   ·refine Fd (.slice (some ⟨w1.heap.size,0,none⟩) 3 3) (w1.alloc (.cells #[.int .u32 4294967295,.int .u32 200,.int .u32 3] 63)) ⟨w1.heap.size,rfl,hW.rn.on.size,by simp,fun k hk=>?_⟩ ((hW.bel aF (bl1 _ _)).upd 13 94 _ (by decide) (by decide)) (fun j v _ h=>h.bel (bl1 _ _) j v);rcases(by omega:k=0\/k=1\/k=2) with rfl | rfl | rfl
    ·exact⟨4294967295,Ab _ _ _ _ _,by decide,by decide⟩
    ·exact⟨200,Ab _ _ _ _ _,by decide,by decide⟩
    exact⟨3,Ab _ _ _ _ _,by decide,by decide⟩
   ·have e0:a.eval _=.pointer (some ⟨b,0,none⟩):=E 0 rfl;exact Dw hW.up
   ·have iV:_=_:=Du D 14;obtain⟨aH,T5⟩:=hW.rn.tp;refine Ei 24 #[.pointer (some ⟨b,0,none⟩),.int .i64 3] ?_;refine(D6 B b A m c f aH 3 _ w1 T5 rfl (by omega) (by omega) hm).mono ?_;rintro e w5⟨k5,bL,aX,rfl,T6,G6⟩;exact⟨_,rfl,⟨k5,aX,rfl⟩,(hW.next aF T6 G6).upd 15 96 _ (by decide) (by decide),fun j v _ h=>h.gb aF G6 j v⟩
   ·obtain⟨g,d13,cV,cU,cR⟩:=Du D 13;obtain⟨k,dJ,iU⟩:=Du D 15;obtain⟨z,hz,bV⟩:=cR k dJ;obtain⟨z0,fH,_⟩:=cR 0 (by omega);have fV:(k:Int) < 3:=by omega
    have iR:=Jh g k;exact K9 (.pointer (some ⟨g,k,none⟩)) ⟨g,k,z,rfl,cV,cU,hz,bV,z0,fH⟩ hW.up
   ·obtain⟨g,k,z,iT,cV,cU,hz,bV,_⟩:=Du D 16;exact K9 (.int .u32 z) (⟨_,rfl,bV⟩) hW.up
   ·have d0:_=_:=Du D 0;obtain⟨kt,⟨iJ,iL⟩,d9⟩:=Du D 9;obtain⟨q,d12⟩:=Du D 12;obtain⟨z,iS,bV⟩:=Du D 17;have gJ:Tryz.prog.built 66 [(0,.int .i64 (fr:Int)),(1,.int .i64 (kt:Int)),(2,.bool q),(4,.int .u32 z)]=some #[.int .i64 (fr:Int),.int .i64 (kt:Int),.bool q,.int .i64 0,.int .u32 z,.int .i64 0]:=by rfl
    exact K9 (.agg #[.int .i64 (fr:Int),.int .i64 (kt:Int),.bool q,.int .i64 0,.int .u32 z,.int .i64 0]) (⟨⟨(fr:Int),(kt:Int),q,0,z,0⟩,⟨⟨by show (0:Int)<=(fr:Int);omega,by show (fr:Int) < (i:Int);omega,by show (0:Int)<=(kt:Int);omega,by show (kt:Int) < (i:Int);omega,bV⟩,rfl,by show (fr:Int)≠(kt:Int);omega,rfl⟩,rfl⟩) hW.up
   ·have fE:=D3 C h0 [] 20 rfl;have bJ:=bl1 w1 (.cells #[.int .i64 0,.int .i64 0,.bool false,.int .i64 0,.int .u32 0,.int .i64 0] 66);have gK:=hW.bel aF bJ;refine Fd (.pointer (some ⟨w1.heap.size,0,none⟩)) (w1.alloc (.cells #[.int .i64 0,.int .i64 0,.bool false,.int .i64 0,.int .u32 0,.int .i64 0] 66)) trivial ⟨gK.rn,fun _ _=>⟨w1.heap.size,Reg.eval_same _ _ _ (by rw[S];exact(by decide:11 < 129)),hW.rn.on.size,Vec.lit w1 _ _ 6 _ fun j hj=>?_⟩,fun e=>?_⟩ (fun j v _ h=>h.bel bJ j v)
    ·rcases(by omega:j=0\/j=1\/j=2\/j=3\/j=4\/j=5) with rfl | rfl | rfl | rfl | rfl | rfl <;> rfl
    have e:(20 == 19 || live 20)=true:=e;rw[fE] at e;cases e
   obtain⟨⟨x0,x1,x2,x3,x4,x5⟩,aK,gT⟩:=Du D 18;obtain⟨g,eV,hg,hv⟩:=hW.un (hk 19 rfl) h0;have gD:wo.heap.size<=g:=hg;have fJ:=(((((hv.set 0 (.int .i64 x0)).set 1 (.int .i64 x1)).set 2 (.bool x2)).set 3 (.int .i64 x3)).set 4 (.int .u32 x4)).set 5 (.int .i64 x5);have aD:Below g w1 ((((((w1.setCell ⟨g,0,none⟩ (.int .i64 x0)).setCell ⟨g,1,none⟩ (.int .i64 x1)).setCell ⟨g,2,none⟩ (.bool x2)).setCell ⟨g,3,none⟩ (.int .i64 x3)).setCell ⟨g,4,none⟩ (.int .u32 x4)).setCell ⟨g,5,none⟩ (.int .i64 x5)):=((((((Aj _ _).setCell (p:=⟨g,0,none⟩) (Ag _) _).setCell (p:=⟨g,1,none⟩) (Ag _) _).setCell (p:=⟨g,2,none⟩) (Ag _) _).setCell (p:=⟨g,3,none⟩) (Ag _) _).setCell (p:=⟨g,4,none⟩) (Ag _) _).setCell (p:=⟨g,5,none⟩) (Ag _) _;have z0:=hv.cell 0 (by omega);have z1:=hv.cell 1 (by omega);have z2:=hv.cell 2 (by omega);have z3:=hv.cell 3 (by omega);have z4:=hv.cell 4 (by omega);have z5:=hv.cell 5 (by omega);have f0:=hv.thaw 0;have f1:=hv.thaw 1;have f2:=hv.thaw 2;have f3:=hv.thaw 3;have f4:=hv.thaw 4;have f5:=hv.thaw 5;refine Rgs.store rfl (Reg.wanted_free rfl) _ ?_ trivial ⟨hW.rn.blw gD (by omega) aD,fun _ e=>absurd e (by rw[Rgs.upd_self];decide),fun _=>⟨g,⟨x0,x1,x2,x3,x4,x5⟩,eV,hg,aK,fJ.congr fun j hj=>?_⟩⟩ ?_
   ·have c:=Reg.consts a;generalize a.eval=ρ at *;simp[execOp,go_sem,c.1,c.2,gT,eV,z0,z1,z2,z3,z4,z5,f0,f1,f2,f3,f4,f5]
   ·rcases(by omega:j=0\/j=1\/j=2\/j=3\/j=4\/j=5) with rfl | rfl | rfl | rfl | rfl | rfl <;> rfl
   intro j v hj h;refine h.keep aD.size j v fun k _ hz _=>?_;have aU:k≠g:=by
    rintro rfl;obtain⟨z,hz⟩:=hz;rw[z0] at hz;cases hz
   rw[Bn _ _ _ _ aU,Bn _ _ _ _ aU,Bn _ _ _ _ aU,Bn _ _ _ _ aU,Bn _ _ _ _ aU,Bn _ _ _ _ aU]
  intro a w3 live hs hd E D Hl hW;obtain⟨gy,x,ea,gA,aK,hv⟩:=hW.at_ (Hl 20 (by decide));rw[Rgs.act_ws a _ _ hs hd E [81,82,83,84,85,86,87,88,89,90,91,92,93,94,95,96,97,98,99,11] (by kernel_rfl)];simp only[List.foldl,Bg,Bv,Bp,ea];have bC:=hid hW.rn;have HV:=hid hv;clear E D Hl hW ea hv;generalize a.eval=ρ;clear a hs hd;obtain⟨x0,x1,x2,x3,x4,x5⟩:=x;have eB:=HV.o.cell 2 (by omega);have dC:w3.cell? ⟨gy,2,none⟩=some (.bool x2):=eB;have gI:b < gy:=by have:=cM.o.on.size;omega
  clear eB;generalize iE:w3=bE at *;cases x2 with
  | false =>
   have aK:Xb i ⟨x0,x1,false,x3,x4,x5⟩:=⟨aK.1,aK.2.1,aK.2.2.1,aK.2.2.2⟩;go_upto_region 24 with fail;have hC:=HS.o.only aB.o bC.o.on bC.o.tp;have q0:=HV.o.cell 0 (by omega);have q1:=HV.o.cell 1 (by omega);have q2:=HV.o.cell 2 (by omega);have q3:=HV.o.cell 3 (by omega);have q4:=HV.o.cell 4 (by omega);have q5:=HV.o.cell 5 (by omega);simp only[ccf,cc,C9,List.getElem?_cons_zero,Bq] at q0 q1 q2 q3 q4 q5;have aD:=bl1 (bE) (.cells #[.int .i64 x0,.int .i64 x1,.bool false,.int .i64 x3,.int .u32 x4,.int .i64 x5] 66);have aE:=hC.bel aB.o aD;have cC:=rdV_new (bE) #[.int .i64 x0,.int .i64 x1,.bool false,.int .i64 x3,.int .u32 x4,.int .i64 x5] 66 ([(⟨x0,x1,false,x3,x4,x5⟩:ChV)].flatMap cc) rfl;have m0:(bE).cell? ⟨gr+1,1,none⟩=some (.slice A2 n2 c2):=hC.cf.cell 1 (by omega);have aI:=aE.ch.own;have cH:=aE.cf.lt;have aC:gr+1 < W.heap.size:=by have:=aN.o;omega
   have bZ:W.heap.size<=((bE).alloc (.cells #[.int .i64 x0,.int .i64 x1,.bool false,.int .i64 x3,.int .u32 x4,.int .i64 x5] 66)).heap.size:=by
    have h1:=aN.o;omega
   have cK:Hd (∀ w4,Below W.heap.size ((bE).alloc (.cells #[.int .i64 x0,.int .i64 x1,.bool false,.int .i64 x3,.int .u32 x4,.int .i64 x5] 66)) w4->w4.cell? ⟨gr+1,1,none⟩=some (.slice A2 n2 c2)/\w4.frozen? ⟨gr+1,1,none⟩=false):=hid fun w4 aM =>
    ⟨(aM.cell (p:=⟨gr+1,1,none⟩) aC).trans (aE.cf.cell 1 (by omega)),(aM.frozen (p:=⟨gr+1,1,none⟩) aC).trans (aE.cf.thaw 1)⟩
   have bD:Hd (∀ A4 c4 w4,OwnV 66 6 w4 W.heap.size A4 (n2+1) c4 ((C++[(⟨x0,x1,false,x3,x4,x5⟩:ChV)]).flatMap cc)->Grew A2 A4 ((bE).alloc (.cells #[.int .i64 x0,.int .i64 x1,.bool false,.int .i64 x3,.int .u32 x4,.int .i64 x5] 66)) w4->CfgS B b A m c f w gr (gr+1) W.heap.size A1 A4 none i (n2+1) 0 c1 c4 0 P (C++[⟨x0,x1,false,x3,x4,x5⟩]) [] (w4.setCell ⟨gr+1,1,none⟩ (.slice A4 (n2+1:Nat) c4))):=hid fun A4 c4 w4 cE aJ =>
    aE.chan aB.o aJ cE
   clear hC aE aD cH bC HV HS;go_wp2_with (at_builtin;go_loud (refine Ea jb rfl (.tmp 107) (.tmp 109) rfl rfl W.heap.size A2 n2 c2 _ rfl aI _ 1 1 _ _ rfl cC rfl Cv (Vt _) (by omega) (by unfold maxLen;omega) bZ (n2+1) rfl ((C++[(⟨x0,x1,false,x3,x4,x5⟩:ChV)]).flatMap cc) (by rw[Bu]) ?_;intro A4 c4 w4 bW aM aJ;obtain⟨z0,z1⟩:=cK.o w4 aM));go_roundw
   case rel=>exact⟨k - 1,n2+1,c4,A4,_,by go_num,by omega,by omega,(fun y hy=>by
    rcases Ay.1 hy with hy | hy
    ·exact cO.o y hy
    simp at hy;subst hy;exact aK),bD.o A4 c4 w4 bW aJ⟩
   simp[intOf];omega
  | true =>
   go_wp2_with fail;obtain⟨cX,T7⟩:=bC.o.tp;refine(D6 B b A m c f cX 3 _ bE T7 rfl (by omega) (by omega) hm).mono ?_;rintro e w7⟨k7,iX,eH,rfl,T8,G8⟩;have cP:=HV.o.keep (G8.block gy HV.o.lt (fun e=>by injection e with e;omega)) G8.size;have eL:=cP.cell 3 (by omega);have iP:=cP.thaw 3;have gF:w7.cell? ⟨gy,3,none⟩=some (.int .i64 x3):=eL;have eC:=cP.set 3 (.int .i64 (1+(k7:Int)));have cZ:=hid ((bC.o.next T8 G8).blw gA (by omega) ((Aj _ w7).setCell (p:=⟨gy,3,none⟩) (Ag _) (.int .i64 (1+(k7:Int)))));have aZ:Hd (Vec (w7.setCell ⟨gy,3,none⟩ (.int .i64 (1+(k7:Int)))) gy 6 (ccf ⟨x0,x1,true,1+(k7:Int),x4,x5⟩)):=hid (eC.congr fun j hj=>by rcases(by omega:j=0\/j=1\/j=2\/j=3\/j=4\/j=5) with rfl | rfl | rfl | rfl | rfl | rfl <;> rfl);clear T7 T8 G8 cP eL eC HV bC dC;go_upto_region 24 with fail;generalize iD:w7.setCell ⟨gy,3,none⟩ (.int .i64 (1+(k7:Int)))=w9 at cZ aZ |-;have aK:Xb i ⟨x0,x1,true,1+(k7:Int),x4,x5⟩:=⟨aK.1,aK.2.1,aK.2.2.1,by show 1<=1+(k7:Int)/\1+(k7:Int)<=8;omega⟩;generalize 1+(k7:Int)=y3 at aZ aK;have hC:=HS.o.only aB.o cZ.o.on cZ.o.tp;have q0:=aZ.o.cell 0 (by omega);have q1:=aZ.o.cell 1 (by omega);have q2:=aZ.o.cell 2 (by omega);have q3:=aZ.o.cell 3 (by omega);have q4:=aZ.o.cell 4 (by omega);have q5:=aZ.o.cell 5 (by omega);simp only[ccf,cc,C9,List.getElem?_cons_zero,Bq] at q0 q1 q2 q3 q4 q5;have aD:=bl1 (w9) (.cells #[.int .i64 x0,.int .i64 x1,.bool true,.int .i64 y3,.int .u32 x4,.int .i64 x5] 66);have aE:=hC.bel aB.o aD;have cC:=rdV_new (w9) #[.int .i64 x0,.int .i64 x1,.bool true,.int .i64 y3,.int .u32 x4,.int .i64 x5] 66 ([(⟨x0,x1,true,y3,x4,x5⟩:ChV)].flatMap cc) rfl;have m0:(w9).cell? ⟨gr+1,1,none⟩=some (.slice A2 n2 c2):=hC.cf.cell 1 (by omega);have aI:=aE.ch.own;have cH:=aE.cf.lt;have aC:gr+1 < W.heap.size:=by have:=aN.o;omega
   have bZ:W.heap.size<=((w9).alloc (.cells #[.int .i64 x0,.int .i64 x1,.bool true,.int .i64 y3,.int .u32 x4,.int .i64 x5] 66)).heap.size:=by
    have h1:=aN.o;omega
   have cK:Hd (∀ w4,Below W.heap.size ((w9).alloc (.cells #[.int .i64 x0,.int .i64 x1,.bool true,.int .i64 y3,.int .u32 x4,.int .i64 x5] 66)) w4->w4.cell? ⟨gr+1,1,none⟩=some (.slice A2 n2 c2)/\w4.frozen? ⟨gr+1,1,none⟩=false):=hid fun w4 aM =>
    ⟨(aM.cell (p:=⟨gr+1,1,none⟩) aC).trans (aE.cf.cell 1 (by omega)),(aM.frozen (p:=⟨gr+1,1,none⟩) aC).trans (aE.cf.thaw 1)⟩
   have bD:Hd (∀ A4 c4 w4,OwnV 66 6 w4 W.heap.size A4 (n2+1) c4 ((C++[(⟨x0,x1,true,y3,x4,x5⟩:ChV)]).flatMap cc)->Grew A2 A4 ((w9).alloc (.cells #[.int .i64 x0,.int .i64 x1,.bool true,.int .i64 y3,.int .u32 x4,.int .i64 x5] 66)) w4->CfgS B b A m c f w gr (gr+1) W.heap.size A1 A4 none i (n2+1) 0 c1 c4 0 P (C++[⟨x0,x1,true,y3,x4,x5⟩]) [] (w4.setCell ⟨gr+1,1,none⟩ (.slice A4 (n2+1:Nat) c4))):=hid fun A4 c4 w4 cE aJ =>
    aE.chan aB.o aJ cE
   clear hC aE aD cH cZ aZ HS;go_wp2_with (at_builtin;go_loud (refine Ea jb rfl (.tmp 107) (.tmp 109) rfl rfl W.heap.size A2 n2 c2 _ rfl aI _ 1 1 _ _ rfl cC rfl Cv (Vt _) (by omega) (by unfold maxLen;omega) bZ (n2+1) rfl ((C++[(⟨x0,x1,true,y3,x4,x5⟩:ChV)]).flatMap cc) (by rw[Bu]) ?_;intro A4 c4 w4 bW aM aJ;obtain⟨z0,z1⟩:=cK.o w4 aM));go_roundw
   case rel=>exact⟨k - 1,n2+1,c4,A4,_,by go_num,by omega,by omega,(fun y hy=>by
    rcases Ay.1 hy with hy | hy
    ·exact cO.o y hy
    simp at hy;subst hy;exact aK),bD.o A4 c4 w4 bW aJ⟩
   simp[intOf];omega
 have gE:¬ 0 < k\/(0 < k/\¬ 1 < i):=by omega
 have HS:=hid hS;obtain⟨aH,T5⟩:=hS.tp;clear hS;rcases gE with cQ | ⟨cQ,fY⟩
 all_goals
  try have dL:¬ (1:Int) < (i:Int):=by omega
  go_wp2_with fail;refine(D6 B b A m c f aH 2 _ wr T5 rfl (by omega) (by omega) hm).mono ?_;rintro e w5⟨k5,bL,aX,rfl,T6,G6⟩;have eZ:=hid (HS.o.next aB.o T6 G6);clear T5 T6 G6 HS;go_wp2;go_loopw [12] (fun s wx=>∃(q:Int) (n3 c3:Nat) (A3:Option Addr) (T:List TbV),s=.int .i64 q/\-1<=q/\q+n3=k5/\(∀ t∈T,TbQ i t)/\CfgS B b A m c f w gr (gr+1) W.heap.size A1 A2 A3 i n2 n3 c1 c2 c3 P C T wx) (fun s _=>(intOf s+1).toNat)
  case atStart=>exact⟨k5,0,0,none,[],rfl,by omega,by omega,(fun t ht=>by cases ht),eZ.o⟩
  obtain⟨q,n3,c3,A3,T,rfl,hq,iG,eD,hS⟩:=hrel;have eY:=hid eD;clear eD;clear eZ;by_cases iH:0<=q
  ·go_wp2_with fail;refine Rgs.region (by kernel_rfl) (by kernel_rfl) (Pi B b A m c f w gr (gr+1) W.heap.size A1 A2 A3 i n2 n3 c1 c2 c3 P C T) (fun live _=>Zm B b A m c f w gr (gr+1) W.heap.size A1 A2 A3 i n2 n3 c1 c2 c3 P C T live) ⟨fun _=>hS.bel aB.o (Aj _ _).drew,fun _=>⟨hS.cf.cell 2 (by omega),hS.cf.thaw 2,by have h1:=hS.cf.lt;have h2:=aN.o;show W.heap.size<=wr.heap.size;omega⟩⟩ (Rgs.steps_of ?_) ?_
   ·refine⟨?_,?_,?_,?_,?_,?_,?_,?_,?_,trivial⟩<;>intro a w1 live S E D C h0 hk hW
    ·have e3:a.eval _=.pointer (some ⟨gr+1,0,none⟩):=E 3 rfl;exact Dw (hW.upd _)
    ·have d0:_=_:=Du D 0;have l8:=D3 C h0 [6] 8 rfl;have gG:=(hW.ce l8).1;exact Dw (hW.upd _)
    ·have e0:a.eval _=.pointer (some ⟨b,0,none⟩):=E 0 rfl;exact Dw (hW.upd _)
    ·have e4:a.eval _=.int .i64 (i:Int):=E 4 rfl;exact Dw (hW.upd _)
    ·have d2:_=_:=Du D 2;have d3:_=_:=Du D 3;have l6:=D3 C h0 [5] 6 rfl;have l8:=D3 C l6 [] 8 rfl;have aP:=hW.cf l6;obtain⟨aH,T5⟩:=aP.tp;refine Ei 25 #[.pointer (some ⟨b,0,none⟩),.int .i64 (i:Int)] ?_;refine(Vm B b A m c f hm i eJ (by omega) aH w1 T5).mono ?_;rintro e w5⟨x,kf,A',n',c',bL,rfl,fN,dH,dZ,fK,_,dF,T6,G6⟩;have bK:=aP.next aB.o T6 G6;have iI:=(L9 dZ).1;have gM:=(hW.ce l8).2.2;have hg:Kv W.heap.size A1 A2 A3 i ⟨A',n',c',x,kf⟩ w5:=⟨dF,⟨⟨dH.rdn,dH.own.cap,fN,by show n'<=1048576;omega⟩,dZ,fK⟩,fun k hk=>by
      have h1:=dH.own.obk_ge hk;exact⟨by omega,h1.2,fun e=>by have:=(aP.pp.own.obk_ge e).2;omega,fun e=>by have:=(aP.ch.own.obk_ge e).2;omega,fun e=>by have:=(aP.tb.own.obk_ge e).2;omega⟩⟩
     refine⟨_,rfl,⟨⟨A',n',c',x,kf⟩,rfl,hg⟩,Zm.upd ⟨fun _=>bK,fun _=>⟨bK.cf.cell 2 (by omega),bK.cf.thaw 2,Ai gM G6.size⟩⟩ 4,fun j v hj h=>?_⟩;have iQ:b < W.heap.size:=by have h1:=dA.o;have h2:=aN.o;omega
     refine Pi.keep (p:=fun k=>k=b) j v (Only.gb G6 rfl) (fun k e=>.inl (by omega)) ?_ ?_ h
     ·rintro rfl;rw[l6] at hj;cases hj
     rintro rfl;rw[l8] at hj;cases hj
    ·obtain⟨x,d4,hg⟩:=Du D 4;have l6:=D3 C h0 [] 6 rfl;have l8:=D3 C l6 [] 8 rfl;have bJ:=bl1 w1 (.cells #[.slice x.A x.n x.c] 34);have aP:=hW.cf l6;have bK:=aP.bel aB.o bJ;refine Fd (.slice (some ⟨w1.heap.size,0,none⟩) 1 1) (w1.alloc (.cells #[.slice x.A x.n x.c] 34)) ⟨w1.heap.size,x,rfl,(hW.ce l8).2.2,by simp,fun e=>by have:=(aP.tb.own.obk_ge e).2;omega,by simp[Ab],hg.only (p:=fun _=>False) (Only.bel bJ) (fun k e=>e.elim)⟩ (Zm.upd ⟨fun _=>bK,fun _=>⟨bK.cf.cell 2 (by omega),bK.cf.thaw 2,Ai (hW.ce l8).2.2 bJ.size⟩⟩ 5) (fun j v hj h=>?_);refine Pi.keep (p:=fun _=>False) j v (Only.bel bJ) (fun k e=>e.elim) ?_ ?_ h
     ·rintro rfl;rw[l6] at hj;cases hj
     rintro rfl;rw[l8] at hj;cases hj
    ·have d1:_=_:=Du D 1;obtain⟨g,x,d5,cV,cU,cR,aJ,dM⟩:=Du D 5;have l8:=D3 C h0 [] 8 rfl;have aP:=hW.cf h0;have bB:=hW.ce l8;obtain⟨A',c',w',bF,h1,h2,h3⟩:=Gn ja w1 W.heap.size A3 n3 c3 _ aP.tb.own ⟨g,0,none⟩ 1 1 [.slice x.A x.n x.c] w1.heap.size (js aJ) rfl (by omega) (fk [x]) (by omega) (by unfold maxLen;omega) bB.2.2;have aC:gr+1 < W.heap.size:=by have:=aN.o;omega
     refine Rgs.grow rfl (Reg.wanted_free rfl) (.slice A' (n3+1:Nat) c') w' ?_ (fun _=>⟨A',c',w1,x,rfl,aP,dM,h3,by rw[Bu];exact h1⟩) ⟨fun e=>absurd e (by rw[Rgs.upd_self];decide),fun _=>⟨(h2.cell (p:=⟨gr+1,2,none⟩) aC).trans bB.1,(h2.frozen (p:=⟨gr+1,2,none⟩) aC).trans bB.2.1,Ai bB.2.2 h2.size⟩⟩ ?_
     ·have c:=Reg.consts a;generalize a.eval=ρ at *;simp only[execOp,resolve,invoke,builtin,Sem.run_bind,Sem.run_pure,At,Cs,Cp,Da,d1,d5,bF]
     intro j v hj h;refine Pi.keep (p:=fun k=>obk A3=some k) j v (Only.grew h3) (fun k e=>.inr e) ?_ ?_ h
     ·rintro rfl;rw[h0] at hj;cases hj
     rintro rfl;rw[l8] at hj;cases hj
    ·have e3:a.eval _=.pointer (some ⟨gr+1,0,none⟩):=E 3 rfl;exact Dw (hW.upd _)
    obtain d6:=Du D 6;have d7:_=_:=Du D 7;have bB:=hW.ce h0;obtain⟨A',c',iB,x,d6,aP,hg,cG,aI⟩:=d6 bB.1;have aY:=aP.tabl aB.o cG aI ⟨hg.at_,hg.ap⟩;have eG:=bB.1;have bS:=bB.2.1;have aC:gr+1 < W.heap.size:=by have:=aN.o;omega
    refine Rgs.store rfl (Reg.wanted_free rfl) (w1.setCell ⟨gr+1,2,none⟩ (.slice A' (n3+1:Nat) c')) ?_ ⟨A',c',x,aY,hg.q⟩ ⟨fun e=>absurd (Rgs.upd_off e) (by rw[hk 6 rfl];decide),fun e=>absurd e (by rw[Rgs.upd_self];decide)⟩ ?_
    ·have c:=Reg.consts a;generalize a.eval=ρ at *;simp[execOp,go_sem,c.1,c.2,d6,d7,eG,bS]
    intro j v hj h;by_cases eI:j=6
    ·subst eI;intro aL;rw[Ci _ _ _ eG] at aL;injection aL with aL;injection aL with _ hn _;omega
    refine Pi.keep (p:=fun k=>k=gr+1) j v (Only.set _ _ _ rfl) (fun k e=>.inl (by omega)) eI ?_ h;rintro rfl;rw[h0] at hj;cases hj
   intro a w3 live hs hd E D Hl hW;obtain⟨A',c',x,hC,fI⟩:Pi B b A m c f w gr (gr+1) W.heap.size A1 A2 A3 i n2 n3 c1 c2 c3 P C T 8 undef w3:=by
    obtain⟨v8,hv,_⟩:=D 8 _ rfl;exact hv
   rw[Rgs.act_ws a _ _ hs hd E [118,119,120,121,122,123,124,125] (by kernel_rfl)];simp only[List.foldl,Bg,Bv,Bp];have hU:=hid hC;clear E D Hl hW hC;generalize a.eval=ρ;clear a hs hd;go_wp2;go_roundw
   case rel=>exact⟨q - 1,n3+1,c',A',_,by go_num,by omega,by omega,(fun t ht=>by
    rcases Ay.1 ht with ht | ht
    ·exact eY.o t ht
    simp at ht;subst ht;exact fI),hU.o⟩
   simp[intOf];omega
  have eE:q=-1:=by omega
  have eF:1<=n3:=by omega
  have dI:n3<=2:=by omega
  have fQ:n2<=3:=by omega
  obtain⟨cX,T7⟩:=hS.tp;have m0:wr.cell? ⟨gr+1,0,none⟩=some (.slice A1 i c1):=hS.cf.cell 0 (by omega);have m1:wr.cell? ⟨gr+1,1,none⟩=some (.slice A2 n2 c2):=hS.cf.cell 1 (by omega);have m2:wr.cell? ⟨gr+1,2,none⟩=some (.slice A3 n3 c3):=hS.cf.cell 2 (by omega);have fC:=hid (eo (pO b A1 A2) B b A m c f hm cX A1 A2 A3 i n2 n3 c1 c2 c3 W.heap.size P C T wr T7 hS.pp hS.ch (hS.asked aB.o) (by have h1:=dA.o;have h2:=aN.o;omega) (fun k=>Iff.rfl) hS.d12 (by omega) (by omega) (by omega) eF (fun x hx=>(cO.o x hx).2.1) dY.o.bud);have bD:Hd (∀ w',fd (pO b A1 A2) B b A m c f A1 A2 A3 i n2 n3 c1 c2 c3 P C T W.heap.size wr (.returned (.agg #[.slice A1 i c1,.slice A2 n2 c2,.slice A3 n3 c3])) w'->Vec w' gr 3 (Vv (.slice none 0 0) (.slice none 0 0) (.slice none 0 0))/\mn RtW B b A m c f w (.returned (.agg #[.slice A1 i c1,.slice A2 n2 c2,.slice A3 n3 c3])) (Fo w' gr (.slice A1 i c1) (.slice A2 n2 c2) (.slice A3 n3 c3))):=hid fun w' h=>by
   obtain⟨P',C',iZ,_,h1,h2,gO,h3,h4,h5,h6,h7,h8,h9,gQ,gP⟩:=h;exact hS.fin aB.o eJ fX fQ eF dI (fun x hx=>(cO.o x hx).1) h1 h2 h3 h4 h5 h6 (fun x hx=>(h7 x hx).2) h8 h9 gQ (hS.rt aB.o h5 gO h3 h6 (fun x hx=>(h7 x hx).1) dY.o cO.o eY.o gP _ _ _)
  clear hS T7;go_wp2_with fail;refine fC.o.mono ?_;intro e w6 h6;have he:=h6;obtain⟨_,_,_,rfl,_⟩:=he;obtain⟨hv,aY⟩:=bD.o w6 h6;have HF:=hid aY
  have r0:w6.cell? ⟨gr,0,none⟩=some (.slice none 0 0):=hv.cell 0 (by omega);have r1:w6.cell? ⟨gr,1,none⟩=some (.slice none 0 0):=hv.cell 1 (by omega);have r2:w6.cell? ⟨gr,2,none⟩=some (.slice none 0 0):=hv.cell 2 (by omega);have s0:=hv.thaw 0;have s1:=hv.thaw 1;have s2:=hv.thaw 2;obtain⟨d0,d1,d2⟩:=Ns hv (.slice A1 i c1) (.slice A2 n2 c2) (.slice A3 n3 c3);have D0:=hid d0;have D1:=hid d1;have D2:=hid d2;clear d0 d1 d2 aY h6 fC bD hv m0 m1 m2;go_wp2_with fail;exact Be (Ik rfl rfl D0.o D1.o D2.o) rfl HF.o
theorem OwnV.ne{E E' s s' B B' n n' c c':Nat}{w:World}{A A':Option Addr}{l l':List Value}(h:OwnV E s w B A n c l)(h':OwnV E' s' w B' A' n' c' l')(hE:E≠E'):∀ k,obk A=some k->obk A'≠some k:=fun k hk aA=>by
 rcases h.2 with ⟨hv,_⟩ | ⟨g,_,aE,hv,_,hg,_⟩
 ·injection hv with h1
  rw[h1] at hk
  cases hk
 ·rcases h'.2 with ⟨aC,_⟩ | ⟨g',_,aD,aC,_,aB,_⟩
  ·injection aC with h1
   rw[h1] at aA
   cases aA
  ·injection hv with h1
   injection aC with h2
   rw[h1] at hk
   rw[h2] at aA
   have e1:g=k:=by injection hk
   have e2:g'=k:=by injection aA
   subst e1
   subst e2
   rw[hg] at aB
   injection aB with aB
   injection aB with _ h3
   exact hE h3
theorem OwnV.ne'{E E' s s' B B' n n' c c' g:Nat}{w:World}{A:Option Addr}{l l':List Value}(h:OwnV E s w B A n c l)(h':OwnV E' s' w B' (some ⟨g,0,none⟩) n' c' l')(hE:E≠E'):∀ k,A=some ⟨k,0,none⟩->k≠g:=fun k e e2=>h.ne h' hE k (by rw[e];rfl) (by rw[e2];rfl)
structure CpS(B gc:Nat)(A1 A2 A3:Option Addr)(n1 n2 n3 c1 c2 c3:Nat)(Q:List Pq)(C:List ChV)(T:List NdT)(w:World):Prop where
 cf:OwnV 31 3 w B (some ⟨gc,0,none⟩) 1 1 [.slice A1 n1 c1,.slice A2 n2 c2,.slice A3 n3 c3]
 pp:Ey 60 11 pcq w B A1 n1 c1 Q
 ch:Ey 66 6 cc w B A2 n2 c2 C
 tb:Ey 34 1 tcn w B A3 n3 c3 T
theorem CpS.on{B gc:Nat}{A1 A2 A3:Option Addr}{n1 n2 n3 c1 c2 c3:Nat}{Q:List Pq}{C:List ChV}{T:List NdT}{w w':World}(h:CpS B gc A1 A2 A3 n1 n2 n3 c1 c2 c3 Q C T w)(hb:Below w.heap.size w w'):CpS B gc A1 A2 A3 n1 n2 n3 c1 c2 c3 Q C T w' :=
 ⟨h.cf.below rfl hb,h.pp.below hb,h.ch.below hb,h.tb.below hb⟩
theorem CpS.cells{B gc:Nat}{A1 A2 A3:Option Addr}{n1 n2 n3 c1 c2 c3:Nat}{Q:List Pq}{C:List ChV}{T:List NdT}{w:World}(h:CpS B gc A1 A2 A3 n1 n2 n3 c1 c2 c3 Q C T w):w.cell? ⟨gc,0,none⟩=some (.slice A1 n1 c1)/\w.cell? ⟨gc,1,none⟩=some (.slice A2 n2 c2)/\w.cell? ⟨gc,2,none⟩=some (.slice A3 n3 c3) :=
 ⟨Ah h.cf 0 (by omega),Ah h.cf 1 (by omega),Ah h.cf 2 (by omega)⟩
theorem mz{α:Type}{l:List α}{i:Nat}{x:α}(h:l[i]? = some x):l.set i x=l:=by
 apply List.ext_getElem?;intro j;rw[List.getElem?_set];split
 ·rename_i e;subst e;rw[h];have:=(Af.1 h).1;simp[this]
 rfl
theorem CpS.put{B gc g1:Nat}{A2 A3:Option Addr}{n1 n2 n3 c1 c2 c3:Nat}{Q:List Pq}{C:List ChV}{T:List NdT}{w:World}(h:CpS B gc (some ⟨g1,0,none⟩) A2 A3 n1 n2 n3 c1 c2 c3 Q C T w){i k:Nat}{x y:Pq}{v:Value}(hx:Q[i]? = some x)(hk:k < 11)(hy:pcq y=(pcq x).set k v):
  CpS B gc (some ⟨g1,0,none⟩) A2 A3 n1 n2 n3 c1 c2 c3 (Q.set i y) C T (w.setCell ⟨g1,i*11+k,none⟩ v) :=
 ⟨h.cf.other _ _ (h.cf.ne' h.pp.own (by decide)),h.pp.put Fv hx hk hy,⟨h.ch.len,h.ch.own.other _ _ (h.ch.own.ne' h.pp.own (by decide))⟩,⟨h.tb.len,h.tb.own.other _ _ (h.tb.own.ne' h.pp.own (by decide))⟩⟩
theorem CpS.putT{B gc g3:Nat}{A1 A2:Option Addr}{n1 n2 n3 c1 c2 c3:Nat}{Q:List Pq}{C:List ChV}{T:List NdT}{w:World}(h:CpS B gc A1 A2 (some ⟨g3,0,none⟩) n1 n2 n3 c1 c2 c3 Q C T w){i:Nat}{x y:NdT}{v:Value}(hx:T[i]? = some x)(hy:tcn y=(tcn x).set 0 v):
  CpS B gc A1 A2 (some ⟨g3,0,none⟩) n1 n2 n3 c1 c2 c3 Q C (T.set i y) (w.setCell ⟨g3,i,none⟩ v):=by
 have h1:=h.tb.put Hm hx (by omega) hy;rw[Cj,Nat.add_zero] at h1;exact⟨h.cf.other _ _ (h.cf.ne' h.tb.own (by decide)),⟨h.pp.len,h.pp.own.other _ _ (h.pp.own.ne' h.tb.own (by decide))⟩,⟨h.ch.len,h.ch.own.other _ _ (h.ch.own.ne' h.tb.own (by decide))⟩,h1⟩
theorem Qax(l:List Pq):∀ u∈l.flatMap pcq,u.oneCell'=true:=by
 rw[Wm];exact Wn _
theorem Qav(l:List NdT):∀ u∈l.flatMap tcn,u.oneCell'=true:=by
 intro u hu;obtain⟨x,_,hx⟩:=List.mem_flatMap.1 hu;simp[tcn] at hx;subst hx;rfl
structure Qbz(B:Nat)(W0:World)(n1 n2 n3:Nat)(P:List Pq)(C:List ChV)(T:List NdT)(live:Nat->Bool)(a:Act)(w:World):Prop where
 on:Below B W0 w
 un:live 10=true->live 11=false->∃ g,a.eval (.tmp 3)=.pointer (some ⟨g,0,none⟩)/\OwnV 31 3 w B (some ⟨g,0,none⟩) 1 1 [.slice none 0 0,.slice none 0 0,.slice none 0 0]
 at_:live 11=true->∃(gc:Nat) (B1 B2 B3:Option Addr) (d1 d2 d3:Nat),a.eval (.tmp 3)=.pointer (some ⟨gc,0,none⟩)/\CpS B gc B1 B2 B3 n1 n2 n3 d1 d2 d3 P C T w
section
variable {B g0:Nat} {A1 A2 A3:Option Addr} {n1 n2 n3 c1 c2 c3:Nat} {P:List Pq} {C:List ChV} {T:List NdT} {w w' W0:World} {live:Nat->Bool} {a:Act}
end
structure CfC(x:Cf):Prop where
 l1:x.P.length=x.n1
 l2:x.C.length=x.n2
 l3:x.T.length=x.n3
 pt:∀ y∈x.P,Ef y.1.per/\y.1.name.size<=140737488351232/\y.2.length=y.1.pn/\y.1.pn<=140737488351232
 tt:∀ y∈x.T,y.l.length=y.n/\(∀ z∈y.l,NdIn z)/\y.n<=140737488351232
 m1:x.n1<=140737488351232
 m2:x.n2<=140737488351232
 m3:x.n3<=140737488351232
 z:Qak x
theorem CfC.of{w:World}{x:Cf}(h:CfR w x):CfC x :=
 ⟨h.pp.len,h.ch.len,h.tb.len,fun y hy=>⟨(h.pt y hy).1.per,(h.pt y hy).1.name,(h.pt y hy).1.procs.len,(h.pt y hy).2.2⟩,fun y hy=>⟨(h.tt y hy).rd.len,(h.tt y hy).rd.bd,(h.tt y hy).few⟩,h.m1,h.m2,h.m3,h.z⟩
structure CvS(B gc:Nat)(x:Cf)(w:World):Prop where
 s:CpS B gc x.A1 x.A2 x.A3 x.n1 x.n2 x.n3 x.c1 x.c2 x.c3 x.P x.C x.T w
 pt:∀ y∈x.P,OwnV 62 2 w B y.1.pa y.1.pn y.1.pc (y.2.flatMap prc)
 tt:∀ y∈x.T,OwnV 54 3 w B y.A y.n y.c (ns y.l)
 ok:CfC x
section
variable {B gc:Nat} {x:Cf} {w w':World}
end
section
variable {B gc g:Nat} {A1 A2 A3:Option Addr} {n1 n2 n3 c1 c2 c3:Nat} {P:List Pq} {C:List ChV} {T:List NdT} {w w':World}
theorem OwnV.grew{E E' s s' B B' n c:Nat}{A A0 A':Option Addr}{l l0:List Value}{n0 c0:Nat}(h:OwnV E s w B A n c l)(h0:OwnV E' s' w B' A0 n0 c0 l0)(hE:E≠E')(hg:Grew A0 A' w w'):OwnV E s w' B A n c l :=
 h.keep' fun k hk=>hg.keep (h.obk_ge hk).2 fun e=>h.ne h0 hE k hk e
theorem CvS.chan(h:CvS B gc ⟨A1,A2,A3,n1,n2,n3,c1,c2,c3,P,C,T⟩ w){A':Option Addr}{c':Nat}{x:ChV}(hg:Grew A2 A' w w')(ho:OwnV 66 6 w' B A' (n2+1) c' ((C++[x]).flatMap cc))(hn:(n2+1)*48<=140737488351232):
  CvS B gc ⟨A1,A',A3,n1,n2+1,n3,c1,c',c3,P,C++[x],T⟩ (w'.setCell ⟨gc,1,none⟩ (.slice A' (n2+1:Nat) c')):=by
 have aB:=h.s.ch.own;have aA:=h.s.cf.grew aB (by decide) hg;have p1:=h.s.pp.own.grew aB (by decide) hg;have t1:=h.s.tb.own.grew aB (by decide) hg;refine⟨⟨aA.set 1 _ (by show 1 < 3;omega),⟨h.s.pp.len,p1.other _ _ (p1.ne' aA (by decide))⟩,⟨by rw[Aa,h.s.ch.len];rfl,ho.other _ _ (ho.ne' aA (by decide))⟩,⟨h.s.tb.len,t1.other _ _ (t1.ne' aA (by decide))⟩⟩,fun y hy=>?_,fun y hy=>?_,⟨h.ok.l1,by show (C++[x]).length=n2+1;rw[Aa,h.s.ch.len];rfl,h.ok.l3,h.ok.pt,h.ok.tt,h.ok.m1,by show n2+1<=_;omega,h.ok.m3,h.ok.z.1,hn,h.ok.z.2.2⟩⟩
 ·have p:=(h.pt y hy).grew aB (by decide) hg;exact p.other _ _ (p.ne' aA (by decide))
 have p:=(h.tt y hy).grew aB (by decide) hg;exact p.other _ _ (p.ne' aA (by decide))
