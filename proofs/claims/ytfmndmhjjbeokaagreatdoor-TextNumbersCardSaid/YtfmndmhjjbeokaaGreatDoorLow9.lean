import Derived.Test.YtfmndmhjjbeokaaGreatDoorLow8
set_option maxHeartbeats 3200000
set_option maxRecDepth 100000
set_option linter.unusedSimpArgs false
set_option linter.unusedVariables false
namespace Go.Proofs.YtfmndmhjjbeokaaGreatDoor
open Go.RowKit Tab
def Oy(l:List Int)(w:World)(e:Ending)(w':World):Prop:=∃ A n c,e=.returned (.slice A n c)/\RdI w' w'.heap.size A n l/\n<=c/\Below w.heap.size w w'/\∀ ad,A=some ad->w.heap.size<=ad.block
theorem OwnV.newer{E s:Nat}{w:World}{B n c:Nat}{A:Option Addr}{l:List Value}(h:OwnV E s w B A n c l):∀ ad,A=some ad->B<=ad.block:=fun ad e=>by
 rcases h.2 with ⟨hv,_⟩ | ⟨g,cap,aB,hv,aA,_⟩
 ·injection hv with h1;rw[e] at h1;cases h1
 ·injection hv with h1;rw[e] at h1;injection h1 with h1;rw[h1];exact aA
theorem Oy.mk{l:List Int}{w w':World}{A:Option Addr}{n c:Nat}(h:OwnV 3 1 w' w.heap.size A n c (is l))(hb:Below w.heap.size w w'):Oy l w (.returned (.slice A n c)) w' :=
 ⟨A,n,c,rfl,⟨by have:=h.len;rw[Gj] at this;omega,h.rd⟩,h.cap,hb,h.newer⟩
theorem Yp(w w':World)(hb:Below w.heap.size w w'):Oy [] w (.returned (.slice none 0 0)) w':=⟨none,0,0,rfl,⟨rfl,RdV.nil⟩,Ag _,hb,fun _ h=>by cases h⟩
theorem Yu{l:List Nd}{a:Nat}(h:size l (a:Int)≠0):∃ m,kids l (a:Int)=plc l (a+1) m/\m<=128/\∀ j,j<=m->pos l (a+1) j<=a+size l (a:Int)/\(j < m->pos l (a+1) j < a+size l (a:Int))/\(j=m->pos l (a+1) j=a+size l (a:Int)):=by
 obtain⟨x,k,t,aA,_,h2,h3,h4⟩:=size_tree h;rw[Bx] at h3;have hd:l.drop (a+1)=k.flat++t:=by
  rw[<- List.drop_drop,h3];rfl
 refine⟨kn x,?_,kn_le aA.1,fun j hj=>?_⟩
 ·unfold kids;have:(l.drop a)[0]? = some x:=by rw[h3];rfl
  have hx:l[a]? = some x:=by simpa using this
  rw[if_neg h,Bx,hx];rfl
 obtain⟨_,h5,_,_⟩:=pos_dr aA.2.2.1 hd (by omega) j (by rw[aA.2.1];exact hj);have h6:=dr_cnt k j;have h7:=F.cnt_le_sz (F.dr j k);rw[aA.2.1] at h6;refine⟨by omega,fun aB=>by omega,fun he=>?_⟩;have h8:F.dr j k=.nil:=F.cnt_zero (by omega);rw[h8] at h5;simp only[F.sz] at h5;omega
theorem am(A:Option Addr)(n cap:Nat)(l:List Nd)(a:Nat)(w:World)(h:RdN w w.heap.size A n l)(hc:n<=cap)(hn:n<=1099511627776)(ha:a < n)(hs:size l (a:Int)≠0):
  Calls Tryz.prog 56 #[.slice A n cap,.int .i64 a] w (Oy (kids l a) w):=by
 obtain⟨m,aG,hm,aA⟩:=Yu hs;rw[aG];have aD:a+size l (a:Int)<=n:=by
  obtain⟨_,h1,_⟩:=aA m (Ag _);obtain⟨x,hx,_,h2⟩:=gw hs;obtain⟨x',k,t,aV,_,h3,h4,h5⟩:=size_tree hs;rw[Bx] at h4;have:=congrArg List.length h4;rw[C1,Ad,Aa,F.flat_length] at this;have:=h.len;omega
 clear aG;generalize aJ:size l (a:Int)=S at hs aD aA;have aT:=hid aJ;have HP:=hid aA;clear aJ aA hs;have aY:¬ cap=a:=by omega
 go_in;go_wp2_with fail;refine(Hx A n cap l a w h hc hn).mono ?_;rw[aT.o];rintro e w1⟨rfl,aR⟩;go_wp2;go_loopw [6,7] (fun o s wr=>∃(i c:Nat) (Ao:Option Addr),i<=m/\s=.int .i64 (pos l (a+1) i:Nat)/\o=.slice Ao i c/\OwnV 3 1 wr w.heap.size Ao i c (is (plc l (a+1) i))/\Below w.heap.size w wr) (fun o _ _=>m - Qc o)
 case atStart=>exact⟨0,0,none,by omega,Fa (by simp[pos]),rfl,OwnV.nil _ _ _ _,aR⟩
 obtain⟨i,c,Ao,hi,rfl,rfl,hw,hb⟩:=hrel;by_cases aP:i < m
 ·obtain⟨_,aB,_⟩:=HP.o i hi;have aB:=aB aP;have aF:pos l (a+1) i+size l (pos l (a+1) i:Nat)<=a+S:=(HP.o (i+1) (by omega)).1;have aE:Hd (pos l (a+1) (i+1)=pos l (a+1) i+size l (pos l (a+1) i:Nat)):=hid rfl;have aL:=hid (bi l (a+1) i);generalize aK:pos l (a+1) i=P at aB aF aE aL |-;have aU:=hid aK;clear aK;have aC:decide ((P:Int) < (a:Int)+(S:Int))=true:=by simp;omega
  have aH:=hb.alloc hb.size (.cells #[.int .i64 (P:Int)] 3);have aN:=OwnV.below hw rfl (bl1 wr (.cells #[.int .i64 (P:Int)] 3));have aO:=rdV_new wr #[.int .i64 (P:Int)] 3 (is [(P:Int)]) rfl;go_wp2_with (at_builtin;go_loud (refine Ej elI rfl (.tmp 23) (.tmp 25) rfl rfl w.heap.size Ao i c _ rfl aN _ 1 1 _ _ rfl aO rfl (Vg _) (by omega) (by unfold maxLen;omega) aH.size (i+1) rfl (is (plc l (a+1) (i+1))) (by rw[aL.o,Mb]) ?_;intro A2 c2 w2 aM aQ _));have k2:=aH.trans aQ;refine(Hx A n cap l (P:Int) _ (h.on k2) hc hn).mono ?_;generalize size l (P:Int)=Z at aE aF |-;rintro e w4⟨rfl,aI⟩;go_wp2;go_roundw
  case rel=>exact⟨i+1,c2,A2,by omega,Fa (by rw[aE.o];omega),rfl,aM.below rfl aI,k2.trans (aI.mono k2.size)⟩
  simp[Qc];omega
 have aX:m<=i:=by omega
 have e:i=m:=by omega
 obtain⟨_,_,aB⟩:=HP.o i hi;have aB:=aB e;generalize pos l (a+1) i=P at aB |-;have aC:decide ((P:Int) < (a:Int)+(S:Int))=false:=by simp;omega
 have aU:=hid aB;have HE:=hid e;clear aB e;go_wp2;go_ret;have e:=HE.o;subst e;exact Oy.mk hw hb
theorem Ya(A:Option Addr)(n cap:Nat)(l:List Nd)(a:Int)(w:World)(h:RdN w w.heap.size A n l)(hc:n<=cap)(hn:n<=1099511627776)(hs:size l a=0)(ha:-9223372036854775808<=a)(aC:a < 9223372036854775807):
  Calls Tryz.prog 56 #[.slice A n cap,.int .i64 a] w (Oy [] w):=by
 have HS:=hid hs;clear hs;have aB:decide (a+1 < a)=false:=Ac (by omega);go_in;go_wp2_with fail;refine(Hx A n cap l a w h hc hn).mono ?_;rw[HS.o];rintro e w1⟨rfl,aA⟩;go_wp2;go_loopw [6,7] (fun o s wr=>o=.slice none 0 0/\s=.int .i64 (a+1)/\Below w.heap.size w wr) (fun _ _ _=>0)
 case atStart=>exact⟨rfl,rfl,aA⟩
 obtain⟨rfl,rfl,hb⟩:=hrel;go_wp2;go_ret;exact Yp _ _ hb
theorem P4(A:Option Addr)(n cap:Nat)(l:List Nd)(a:Int)(w:World)(h:RdN w w.heap.size A n l)(hc:n<=cap)(hn:n<=1099511627776)(ha:-9223372036854775808<=a)(aA:a < 9223372036854775807):
  Calls Tryz.prog 56 #[.slice A n cap,.int .i64 a] w (Oy (kids l a) w):=by
 by_cases hs:size l a=0
 ·rw[Yv l a hs];exact Ya A n cap l a w h hc hn hs ha aA
 obtain⟨x,k,t,_,h1,h2,_⟩:=size_tree hs;obtain⟨a',rfl⟩:=Ax h1;exact am A n cap l a' w h hc hn (by have:=h.len;omega) hs
theorem L6(A:Option Addr)(n cap:Nat)(l:List Nd)(a:Int)(w:World)(h:RdN w w.heap.size A n l)(hc:n<=cap)(hn:n<=1099511627776)(ha:-9223372036854775808<=a)(aA:a < 9223372036854775807):
  Calls Tryz.prog 56 #[.slice A n cap,.int .i64 a] w (Qao (kids l a) w):=by
 refine(P4 A n cap l a w h hc hn ha aA).mono ?_;rintro e w'⟨A,n,c,h1,h2,h3,h4,_⟩;exact⟨A,n,c,h1,h2,h3,h4⟩
theorem Lk{l t:List Nd}{p:Nat}{x:Nd}{k r:F}(aA:(F.cons x k r).ok)(hl:l.drop p=(F.cons x k r).flat++t):kids l (p:Int)=plc l (p+1) k.cnt/\p+1+k.sz<=l.length/\l.drop (p+1)=k.flat++(r.flat++t)/\l[p]? = some x:=by
 have hs:=size_at aA hl;have hx:l[p]? = some x:=by
  have:(l.drop p)[0]? = some x:=by rw[hl];rfl
  simpa using this
 have hd:l.drop (p+1)=k.flat++(r.flat++t):=by
  rw[<- List.drop_drop,hl];simp[F.flat]
 refine⟨?_,?_,hd,hx⟩
 ·unfold kids;rw[if_neg (by omega),Bx,hx,aA.2.1];rfl
 have:=congrArg List.length hl;rw[C1,Aa,F.flat_length] at this;simp only[F.sz] at this;omega
theorem M8(l:List Nd)(p m i:Nat)(h:i < m):(plc l p m)[i]? = some (pos l p i:Int):=by
 simp[plc,h]
theorem Ur(A:Option Addr)(n cap:Nat)(l:List Nd)(hc:n<=cap)(hn:n<=1099511627776)(M:Nat):∀(p:Nat) (x:Nd) (k r:F) (t:List Nd) (w:World),k.sz < M->RdN w w.heap.size A n l->(F.cons x k r).ok->l.drop p=(F.cons x k r).flat++t->
  Calls Tryz.prog 80 #[.slice A n cap,.int .i64 p] w (Ans (.int .i64 (k.dep+1:Nat)) w):=by
 induction M with
 | zero=>intro p x k r t w h;omega
 | succ M ih =>
  intro p x k r t w hM h aD hl;obtain⟨hk,aH,hd,hx⟩:=Lk aD hl;have aC:=h.len;rw[aC] at aH;have hm:k.cnt<=n:=by have:=F.cnt_le_sz k;omega
  have aP:=hid fun j hj=>pos_dr aD.2.2.1 hd (by omega) j hj;have aG:=hid aD.2.2.1;generalize aL:k.cnt=m at hk hm aP;have aQ:(p:Int)<=1099511627776:=by omega
  have bD:=F.dep_le_sz k;have HM:=hid aL;have HK:=hid hk;have aZ:=hid ih;clear hk aL hl hd hx aC aD ih;go_in;go_wp2_with fail;refine(L6 A n cap l (p:Int) w h hc hn (by omega) (by omega)).mono ?_;rw[HK.o];rintro e w1⟨A1,n1,c1,rfl,aK,bE,aE⟩;have aU:n1=m:=by have:=aK.len;simp[plc] at this;omega
  subst aU;go_wp2;go_loopw [5,12] (fun d s wr=>∃(i e:Nat),i<=n1/\s=.int .i64 i/\d=.int .i64 e/\max e (F.dr i k).dep=k.dep/\Below w1.heap.size w1 wr) (fun _ s _=>n1 - (intOf s).toNat)
  case atStart=>exact⟨0,0,by omega,rfl,rfl,by simp[F.dr],Aj _ _⟩
  obtain⟨i,e,hi,rfl,rfl,he,hb⟩:=hrel;have HE:=hid he;have bC:e<=k.dep:=by omega
  clear he;by_cases aM:i < n1
  ·obtain⟨hd,aF,aT,aR⟩:=aP.o i (by omega);obtain⟨y,ky,r',ed⟩:=dr_cons (f:=k) (j:=i) (by have:=HM.o;omega);have aB:=dr_ok aG.o i;have aO:=dr_succ ed;rw[ed] at hd aF aB;have aX:ky.sz < M:=by simp only[F.sz] at aF;omega
   have aI:max e (max (ky.dep+1) r'.dep)=k.dep:=by have:=HE.o;rw[ed] at this;exact this
   have aA:=M8 l (p+1) n1 i aM;have bA:=hid aO;have aJ:=hid aI;clear aF ed aO;generalize pos l (p+1) i=P at hd aT aR aA;have aV:ky.dep+1<=k.dep:=by omega
   obtain⟨bF,z,rfl,_,hz,aN⟩:=(aK.on hb).at_ aM;rw[aA] at hz;injection hz with hz;subst hz;clear aA;have k1:=aE.trans (hb.mono aE.size);go_wp2_with fail;refine(aZ.o P y ky r' _ wr aX (h.on k1) aB hd).mono ?_;rintro e2 w4⟨rfl,aY⟩;go_wp2;go_roundw
   case rel=>exact⟨i+1,max e (ky.dep+1),by omega,by go_num,Fa (by split <;> omega),by rw[bA.o];have:=aJ.o;omega,hb.trans (aY.mono hb.size)⟩
   simp[intOf];omega
  have bB:n1<=i:=by omega
  go_wp2;go_ret;refine Ans.mk (Fa (b:=(e:Int)+1) ?_) (aE.trans (hb.mono aE.size));have e1:=HE.o;have e2:F.dr i k=.nil:=by rw[show i=k.cnt by have:=HM.o;omega];exact dr_all k
  rw[e2] at e1;simp only[F.dep] at e1;omega
def hl4(a:Nat):Nat:=min a 4097
theorem it(a b:Nat)(ha:1<=a)(hb:1<=b):hl4 (hl4 a*hl4 b)=hl4 (a*b):=by
 unfold hl4;by_cases h1:a<=4097
 ·rw[Nat.min_eq_left h1];by_cases h2:b<=4097
  ·rw[Nat.min_eq_left h2]
  rw[Nat.min_eq_right (by omega:4097<=b)];have h3:1*4097<=a*4097:=Cd _ ha;have h4:a*4097<=a*b:=Do _ (by omega);omega
 rw[Nat.min_eq_right (by omega:4097<=a)];have h3:4097*1<=4097*min b 4097:=Do _ (by omega);have h4:4097*1<=4097*b:=Do _ hb;have h5:4097*b<=a*b:=Cd _ (by omega);omega
theorem Sa(A:Option Addr)(n cap:Nat)(l:List Nd)(hc:n<=cap)(hn:n<=1099511627776)(M:Nat):∀(p:Nat) (x:Nd) (k r:F) (t:List Nd) (w:World),k.sz < M->RdN w w.heap.size A n l->(F.cons x k r).ok->l.drop p=(F.cons x k r).flat++t->
  Calls Tryz.prog 81 #[.slice A n cap,.int .i64 p] w (Ans (.int .i64 (hl4 (F.tick x k.len):Nat)) w):=by
 induction M with
 | zero=>intro p x k r t w h;omega
 | succ M ih =>
  intro p x k r t w hM h aJ hl;obtain⟨hk,aM,hd,hx⟩:=Lk aJ hl;have aF:=h.len;rw[aF] at aM;have hm:k.cnt<=n:=by have:=F.cnt_le_sz k;omega
  have aV:=hid fun j hj=>pos_dr aJ.2.2.1 hd (by omega) j hj;have aA:=hid aJ;generalize aO:k.cnt=m at hk hm aV;have bB:(p:Int)<=1099511627776:=by omega
  have bA:p < n:=by omega
  have HM:=hid aO;have HK:=hid hk;have HX:=hid hx;have bM:=hid ih;clear hk aO hl hd hx aF aJ ih;go_in;go_wp2_with fail;refine(L6 A n cap l (p:Int) w h hc hn (by omega) (by omega)).mono ?_;rw[HK.o];rintro e w1⟨A1,n1,c1,rfl,aL,bQ,aT⟩;have bE:n1=m:=by have:=aL.len;simp[plc] at this;omega
  subst bE;go_wp2;go_loopw [5,12] (fun d s wr=>∃(i e:Nat),i<=n1/\s=.int .i64 i/\d=.int .i64 e/\e<=4097/\hl4 (e+(F.dr i k).len)=hl4 k.len/\Below w1.heap.size w1 wr) (fun _ s _=>n1 - (intOf s).toNat)
  case atStart=>exact⟨0,0,by omega,rfl,rfl,by omega,by simp[F.dr],Aj _ _⟩
  obtain⟨i,e,hi,rfl,rfl,bJ,he,hb⟩:=hrel;have HE:=hid he;clear he;have k1:=aT.trans (hb.mono aT.size);by_cases aP:i < n1
  ·obtain⟨hd,aK,bD,bC⟩:=aV.o i (by omega);obtain⟨y,ky,r',ed⟩:=dr_cons (f:=k) (j:=i) (by have:=HM.o;omega);have aE:=dr_ok aA.o.2.2.1 i;have aU:=dr_succ ed;rw[ed] at hd aK aE;have bG:ky.sz < M:=by simp only[F.sz] at aK;omega
   have aH:hl4 (e+(F.tick y ky.len+r'.len))=hl4 k.len:=by have:=HE.o;rw[ed] at this;exact this
   have aB:=M8 l (p+1) n1 i aP;have bN:=hid aU;have aN:=hid aH;clear aK ed aU aH;generalize pos l (p+1) i=P at hd bD bC aB;obtain⟨bU,z,rfl,_,hz,aR⟩:=(aL.on hb).at_ aP;rw[aB] at hz;injection hz with hz;subst hz;clear aB;have aC:hl4 (F.tick y ky.len)<=4097:=by unfold hl4;omega
   go_wp2_with fail;refine(bM.o P y ky r' _ wr bG (h.on k1) aE hd).mono ?_;generalize hV:hl4 (F.tick y ky.len)=V at aC |-;have HV:=hid hV;clear hV;rintro e2 w4⟨rfl,bK⟩;go_wp2;go_roundw
   case rel =>
    refine⟨i+1,min (e+V) 4097,by omega,by go_num,Fa (by split <;> omega),by omega,?_,hb.trans (bK.mono hb.size)⟩;rw[bN.o,<- aN.o];have:=HV.o;unfold hl4 at *;omega
   simp[intOf];omega
  have bP:n1<=i:=by omega
  have e2:F.dr i k=.nil:=by rw[show i=k.cnt by have:=HM.o;omega];exact dr_all k
  have e1:=HE.o;rw[e2] at e1;have e3:e=hl4 k.len:=by simp only[F.len,hl4] at e1 |-;omega
  have aX:=hid e3;clear e1 e2 e3;obtain⟨ad,x',rfl,_,aI,aQ,c0,c1,c2⟩:=(h.on k1).at_ bA;obtain⟨xk,xp,xn⟩:=x';rw[HX.o] at aI;injection aI with aI;subst aI;have bT:1<=xn:=fine_one aA.o.1;have bI:Hd (k.cnt=kn ⟨xk,xp,xn⟩):=hid aA.o.2.1;have bH:Hd k.ok:=hid aA.o.2.2.1;have bO:xn<=9223372036854775807:=aQ.2.2.2;clear aQ aL;by_cases h3:xk=3
  ·subst h3;go_wp2;go_ret;refine Ans.mk (Fa (b:=(e:Int)) ?_) k1;rw[aX.o];rfl
  by_cases h4:xk=4
  ·subst h4;have bF:1<=k.len:=F.len_pos bH.o (by rw[bI.o];exact Cv);have aD:F.tick ⟨4,xp,xn⟩ k.len=k.len*xn.toNat:=rfl;have aG:∀ z:Nat,z=min xn.toNat 4097->hl4 (e*z)=hl4 (k.len*xn.toNat):=fun z hz=>by
    rw[hz,aX.o];exact it _ _ bF (by omega)
   have HF:=hid aG
   have HT:=hid aD;clear aG aD h3;by_cases hN:4097 < xn
   ·have aZ:(0:Int)<=(e:Int)*4097:=by omega
    go_wp2_with fail
    all_goals
     go_ret;refine Ans.mk ?_ k1;refine Fa ?_;rw[HT.o,<- HF.o 4097 (by omega)];unfold hl4;omega
   obtain⟨N,rfl⟩:=Ax (show 0<=xn by omega);have bL:N<=4097:=by omega
   have h0:e*N<=4097*4097:=Nat.mul_le_mul bJ bL;have aZ:(0:Int)<=(e:Int)*(N:Int):=Int.mul_nonneg (by omega) (by omega);have aY:(e:Int)*(N:Int)<=16785409:=(Int.natCast_mul e N)▸(show ((e*N:Nat):Int)<=16785409 by omega);clear h0;go_wp2_with fail
   all_goals
    go_ret;refine Ans.mk ?_ k1;refine Fa ?_;rw[HT.o,<- HF.o N (by omega)];unfold hl4;rw[<- Int.natCast_mul] at *;omega
  have bS:(xk == 3)=false:=Ak.2 h3;have bR:(xk == 4)=false:=Ak.2 h4;have aD:F.tick ⟨xk,xp,xn⟩ k.len=xn.toNat:=by unfold F.tick;rw[if_neg h3,if_neg h4]
  have HT:=hid aD;clear aD h3 h4;go_wp2_with fail
  all_goals
   go_ret;refine Ans.mk ?_ k1;refine Fa ?_;rw[HT.o];unfold hl4;omega
def Lt(B:Nat)(A0:Option Addr)(L:List Rn)(w:World)(e:Ending)(w':World):Prop:=∃ A c,e=.returned (.slice A L.length c)/\OwnV 129 2 w' B A L.length c (rs L)/\Below B w w'/\Grew A0 A w w'
theorem Lt.mk{B:Nat}{L L':List Rn}{w w':World}{A0 A:Option Addr}{n c:Nat}(hL:L=L')(hn:n=L.length)(h:OwnV 129 2 w' B A n c (rs L))(hb:Below B w w')(hg:Grew A0 A w w'):Lt B A0 L' w (.returned (.slice A n c)) w':=by
 subst hL;subst hn;exact⟨A,c,rfl,h,hb,hg⟩
theorem Ys(B:Nat)(A:Option Addr)(n cap:Nat)(l:List Nd)(hc:n<=cap)(hn:n<=1099511627776)(p:Nat)(x:Nd)(w:World)(h:RdN w B A n l)(hx:l[p]? = some x)(hf:fine x=true)(h3:¬ x.k=3)(h4:¬ x.k=4)(hB:B<=w.heap.size)
  (A0:Option Addr) (n0 c0:Nat) (L:List Rn) (hL:L.length=n0) (h0:OwnV 129 2 w B A0 n0 c0 (rs L)) (hs:n0<=1048576) :
  Calls Tryz.prog 117 #[.slice A n cap,.int .i64 p,.slice A0 n0 c0] w (Lt B A0 (L++[⟨whose x,x.n.toNat⟩]) w):=by
 have aH:p < n:=by rw[<- h.len];exact(Af.1 hx).1
 obtain⟨ad,y,rfl,aO,hy,aL,d0,d1,d2⟩:=h.at_ aH;rw[hx] at hy;injection hy with hy;subst hy;obtain⟨xk,xp,xn⟩:=x;have aI:=fine_one hf;have aM:=(Em _ _ _).1 hf;obtain⟨N,rfl⟩:=Ax (show 0<=xn by dsimp only at aI;omega);have aK:(p:Int) < (n:Int):=by omega
 have aJ:0<=(p:Int):=by omega
 dsimp only at h3 h4;have hk:xk=1\/xk=2:=by omega
 have H0:=hid h0;have aN:(ad.add (p*3)).block < w.heap.size:=by rw[Eh];omega
 clear h hf aM hx aL h0 h3 h4;have aB:∀(v:Int) (A2:Option Addr) (c2:Nat) (w2:World),v=whose ⟨xk,xp,(N:Int)⟩->OwnV 129 2 w2 B A2 (n0+1) c2 (rs (L++[⟨v,N⟩]))->Below B (w.alloc (.cells #[.int .i64 v,.int .i64 (N:Int)] 129)) w2->Grew A0 A2 (w.alloc (.cells #[.int .i64 v,.int .i64 (N:Int)] 129)) w2->Lt B A0 (L++[⟨whose ⟨xk,xp,(N:Int)⟩,(N:Int).toNat⟩]) w (.returned (.slice A2 (n0+1) c2)) w2:=fun v A2 c2 w2 hv hw hb hg=>by
  refine Lt.mk (L:=L++[⟨v,N⟩]) (by rw[hv];simp) (by simp[hL]) hw ?_ ((Grew.bel (bl1 w _)).trans hg);exact((Aj B w).alloc hB _).trans hb
 have HF:=hid aB
 clear aB
 rcases hk with rfl | rfl
 ·have aD:OwnV 129 2 (w.alloc (.cells #[.int .i64 xp,.int .i64 (N:Int)] 129)) B A0 n0 c0 (rs L):=H0.o.below rfl (bl1 w (.cells #[.int .i64 xp,.int .i64 (N:Int)] 129));have aE:=rdV_new w #[.int .i64 xp,.int .i64 (N:Int)] 129 (rs [⟨xp,N⟩]) rfl;have aG:B<=(w.alloc (.cells #[.int .i64 xp,.int .i64 (N:Int)] 129)).heap.size:=by simp;omega
  go_in;go_wp2_with fail;go_region_law (refine Xu elR rfl (.tmp 17) (.tmp 29) rfl rfl B A0 n0 c0 _ rfl aD _ 1 1 _ _ rfl aE rfl Cv (Kl _) (by omega) (by unfold maxLen;omega) aG (n0+1) rfl (rs (L++[⟨xp,N⟩])) (Fp _ _).symm ?_;intro A2 c2 w2 aC aA aF)
  all_goals
   go_wp2;go_ret;exact HF.o xp A2 c2 w2 rfl aC ⟨aA.os,aA.tape,aA.output,aA.size,aA.block⟩ aF.drew
 have aD:OwnV 129 2 (w.alloc (.cells #[.int .i64 (-1),.int .i64 (N:Int)] 129)) B A0 n0 c0 (rs L):=H0.o.below rfl (bl1 w (.cells #[.int .i64 (-1),.int .i64 (N:Int)] 129));have aE:=rdV_new w #[.int .i64 (-1),.int .i64 (N:Int)] 129 (rs [⟨-1,N⟩]) rfl;have aG:B<=(w.alloc (.cells #[.int .i64 (-1),.int .i64 (N:Int)] 129)).heap.size:=by simp;omega
 go_in;go_wp2_with (at_builtin;go_loud (refine Ea elR rfl (.tmp 33) (.tmp 40) rfl rfl B A0 n0 c0 _ rfl aD _ 1 1 _ _ rfl aE rfl Cv (Kl _) (by omega) (by unfold maxLen;omega) aG (n0+1) rfl (rs (L++[⟨-1,N⟩])) (Fp _ _).symm ?_;intro A2 c2 w2 aC aA aF));go_ret;exact HF.o (-1) A2 c2 w2 rfl aC aA aF
theorem OwnV.older{E s:Nat}{w:World}{B n c:Nat}{A:Option Addr}{l:List Value}(h:OwnV E s w B A n c l){g:Nat}(e:obk A=some g):g < w.heap.size:=by
 rcases h.2 with ⟨hv,_⟩ | ⟨g',cap,aA,hv,_,hg,_⟩
 ·injection hv with h1;rw[h1] at e;cases e
 injection hv with h1;rw[h1] at e;injection e with e;rw[<- e];exact(Bt.1 hg).1
theorem Jw(i:Nat)(s:List Rn):reps (i+1) s=reps i s++s:=by
 induction i with
 | zero=>simp[reps]
 | succ j ih =>
  have e:reps (j+1) s=s++reps j s:=rfl;have e2:reps (j+1+1) s=s++reps (j+1) s:=rfl;rw[e2,ih,<- Ar,<- e,ih]
theorem Uq(i N:Nat)(s:List Rn)(h:i<=N):reps i s++reps (N - i) s=reps N s:=by
 induction i with
 | zero=>simp[reps]
 | succ i ih =>
  rw[<- ih (by omega),reps_one (n:=N - i) (by omega),show N - i - 1=N - (i+1) by omega,<- Ar,Jw]
theorem Sb(B:Nat)(A:Option Addr)(n cap:Nat)(l:List Nd)(hc:n<=cap)(hn:n<=1099511627776)(M:Nat):∀(p:Nat) (x:Nd) (k r:F) (t:List Nd) (w:World) (A0:Option Addr) (n0 c0:Nat) (L:List Rn),k.sz < M->RdN w B A n l->(F.cons x k r).ok->l.drop p=(F.cons x k r).flat++t->B<=w.heap.size->L.length=n0->OwnV 129 2 w B A0 n0 c0 (rs L)->n0+(one x k.lvs).length<=1048576->
  Calls Tryz.prog 117 #[.slice A n cap,.int .i64 p,.slice A0 n0 c0] w (Lt B A0 (L++one x k.lvs) w):=by
 induction M with
 | zero=>intro p x k r t w A0 n0 c0 L h;omega
 | succ M ih =>
  intro p x k r t w A0 n0 c0 L hM h aG hl hB hL h0 hs;obtain⟨hk,bE,hd,hx⟩:=Lk aG hl;have aK:=h.len;rw[aK] at bE;have aZ:p < n:=by omega
  by_cases h3:x.k=3
  ·have hm:k.cnt<=n:=by have:=F.cnt_le_sz k;omega
   have bY:=hid fun j hj=>pos_dr aG.2.2.1 hd (by omega) j hj;have bD:=hid aG;rw[lvs_seq h3] at hs |-;generalize bT:k.cnt=m at hk hm bY;have bA:(p:Int)<=1099511627776:=by omega
   obtain⟨ad,x',rfl,cG,aD,aU,bL,bK,bJ⟩:=h.at_ aZ;rw[hx] at aD;injection aD with aD;subst aD;obtain⟨xk,xp,xn⟩:=x;dsimp only at h3;subst h3;have HM:=hid bT;have HK:=hid hk;have bN:=hid ih;have HR:=hid h;have H0:=hid h0;have HL:=hid hL;clear hk bT hl hd hx aK aG ih aU h h0;go_in;go_wp2_with fail;refine(P4 (some ad) n cap l (p:Int) w (HR.o.more hB) hc hn (by omega) (by omega)).mono ?_;rw[HK.o];rintro e w1⟨A1,n1,c1,rfl,aY,cP,aV,aP⟩;have aT:n1=m:=by have:=aY.len;simp[plc] at this;omega
   subst aT;have bR:=H0.o.below rfl aV;have cM:=aV.size;have bP:Hd (∀ ad,A1=some ad->some ad.block≠obk A0):=hid fun bW e'=>by
    have h1:=aP bW e';intro e2;have h2:=H0.o.older e2.symm;omega
   have cH:=hid bR;have cI:=hid aY;clear bR aP aY bL bK bJ;go_wp2;go_loopw [2,63] (fun o s wr=>∃(i:Nat) (Ao:Option Addr) (co:Nat) (Li:List Rn),i<=n1/\s=.int .i64 i/\o=.slice Ao (L++Li).length co/\Li++(F.dr i k).lvs=k.lvs/\OwnV 129 2 wr B Ao (L++Li).length co (rs (L++Li))/\Below B w wr/\Grew A0 Ao w1 wr) (fun _ s _=>n1 - (intOf s).toNat)
   case atStart=>exact⟨0,A0,c0,[],by omega,rfl,by rw[Az,HL.o],by simp[F.dr],by rw[Az,HL.o];exact cH.o,aV.mono hB,Grew.refl _ _⟩
   obtain⟨i,Ao,co,Li,hi,rfl,rfl,bU,aN,hb,hg⟩:=hrel;have bZ:=hid bU;have aR:=hid aN;have HG:=hid hg;have cF:=hb.size;clear bU aN hg;by_cases bC:i < n1
   ·obtain⟨hd,aX,cC,cA⟩:=bY.o i (by omega);obtain⟨y,ky,r',ed⟩:=dr_cons (f:=k) (j:=i) (by have:=HM.o;omega);have aJ:=dr_ok bD.o.2.2.1 i;have bV:=dr_succ ed;rw[ed] at hd aX aJ;have cD:ky.sz < M:=by simp only[F.sz] at aX;omega
    have bB:Li++(one y ky.lvs++r'.lvs)=k.lvs:=by have:=bZ.o;rw[ed] at this;exact this
    have aB:(L++Li).length+(one y ky.lvs).length<=1048576:=by
     have:=congrArg List.length bB;simp only[Aa] at this |-;have:=HL.o;omega
    have aL:=M8 l (p+1) n1 i bC;have cL:=hid bV;have cK:=hid bB;clear aX ed bV bB;generalize pos l (p+1) i=P at hd cC cA aL;obtain⟨bM,z,rfl,bI,hz,aI⟩:=cI.o.at_ bC;rw[aL] at hz;injection hz with hz;subst hz;have bF:wr.cell? (bM.add i)=some (.int .i64 (P:Int)):=by
     refine(Bf ?_).trans aI;rw[Eh];exact HG.o.gb.block bM.block bI (bP.o bM rfl)
    clear aL aI;have aA:=bN.o P y ky r' _ wr Ao (L++Li).length co (L++Li) cD (HR.o.below hb) aJ hd (by omega) rfl aR.o aB;have aC:=hid aA;clear aA hd aJ aB;generalize (L++Li).length=q at aC |-;go_wp2_with fail;refine aC.o.mono ?_;rintro e2 w4⟨A4,c4,rfl,aF,bH,aQ⟩;have aM:=hid aF;have bO:=hid aQ;clear aF aQ;generalize aE:(L++Li++one y ky.lvs).length=q4;have aH:=hid aE;clear aE;go_wp2;go_roundw
    case rel=>exact⟨i+1,A4,c4,Li++one y ky.lvs,by omega,by go_num,by rw[<- aH.o,Ar],by rw[cL.o,Ar];exact cK.o,by rw[<- Ar];exact aM.o,hb.trans bH,HG.o.trans bO.o⟩
    simp[intOf];omega
   have cE:n1<=i:=by omega
   have e2:F.dr i k=.nil:=by rw[show i=k.cnt by have:=HM.o;omega];exact dr_all k
   have e3:Li=k.lvs:=by have:=bZ.o;rw[e2] at this;simpa [F.lvs] using this
   have bQ:=hid e3;clear e2 e3;generalize aE:(L++Li).length=q;have aH:=hid aE;clear aE;go_wp2;go_ret;have hw:=aR.o;rw[aH.o] at hw;exact Lt.mk (L:=L++Li) (by rw[bQ.o]) aH.o.symm hw hb ((Grew.bel aV).trans HG.o)
  by_cases h4:x.k=4
  ·rw[lvs_rep h4] at hs |-;obtain⟨ad,x',rfl,cG,aD,aU,bL,bK,bJ⟩:=h.at_ aZ;rw[hx] at aD;injection aD with aD;subst aD;obtain⟨xk,xp,xn⟩:=x;dsimp only at h4 hs;subst h4;have aT:=fine_one aG.1;obtain⟨N,rfl⟩:=Ax (show 0<=xn by dsimp only at aT;omega);have cQ:(N:Int)<=9223372036854775807:=aU.2.2.2;have bG:k.cnt=1:=aG.2.1;cases k with
   | nil=>simp[F.cnt] at bG
   | cons y q r2 =>
    obtain rfl:r2=.nil:=F.cnt_zero (by simp only[F.cnt] at bG;omega);have e1:(F.cons y q .nil).lvs=one y q.lvs:=by simp[F.lvs]
    rw[Bx,e1] at hs;simp only[Bx,e1];have hq:q.sz < M:=by simp only[F.sz] at hM;omega
    have aO:=aG.2.2.1;have cJ:=hid aO;have HD:=hid hd;have bN:=hid ih;have HR:=hid h;have H0:=hid h0;have HL:=hid hL;have bA:(p:Int)<=1099511627776:=by omega
    have HX:=hid hx;clear h3 hk hd hx aK aG hl ih aU h h0 aO bG bJ e1 aT hM;generalize bS:one y q.lvs=sl at hs |-;have bX:=hid bS;clear bS;go_in;go_wp2;clear bL bK;go_loopw [2,7] (fun o s wr=>∃(i:Nat) (Ao:Option Addr) (co:Nat),i<=N/\s=.int .i64 i/\o=.slice Ao (L++reps i sl).length co/\OwnV 129 2 wr B Ao (L++reps i sl).length co (rs (L++reps i sl))/\Below B w wr/\Grew A0 Ao w wr) (fun _ s _=>N - (intOf s).toNat)
    case atStart=>exact⟨0,A0,c0,by omega,rfl,by simp[reps,HL.o],by simp only[reps,Az,HL.o];exact H0.o,Aj _ _,Grew.refl _ _⟩
    obtain⟨i,Ao,co,hi,rfl,rfl,aN,hb,hg⟩:=hrel;have aR:=hid aN;have HG:=hid hg;have cF:=hb.size;clear aN hg;obtain⟨bW,x',e,_,aD,_,k0,k1,k2⟩:=(HR.o.below hb).at_ aZ;injection e with e;subst e;rw[HX.o] at aD;injection aD with aD;subst aD;clear k0 k1;by_cases bC:i < N
    ·have aB:(L++reps i sl).length+(one y q.lvs).length<=1048576:=by
      rw[bX.o];have:=congrArg List.length (Uq (i+1) N sl (by omega));rw[Jw] at this;simp only[Aa] at this |-;have:=HL.o;omega
     have aA:=bN.o (p+1) y q .nil _ wr Ao (L++reps i sl).length co (L++reps i sl) hq (HR.o.below hb) cJ.o HD.o (by omega) rfl aR.o aB;rw[bX.o] at aA;have aC:=hid aA;clear aA aB;generalize (L++reps i sl).length=q1 at aC |-;go_wp2_with fail;refine aC.o.mono ?_;rintro e2 w4⟨A4,c4,rfl,aF,bH,aQ⟩;have aM:=hid aF;have bO:=hid aQ;clear aF aQ;generalize aE:(L++reps i sl++sl).length=q4;have aH:=hid aE;clear aE;go_wp2;go_roundw
     case rel=>exact⟨i+1,A4,c4,by omega,by go_num,by rw[<- aH.o,Ar,<- Jw],by rw[Jw,<- Ar];exact aM.o,hb.trans bH,HG.o.trans bO.o⟩
     simp[intOf];omega
    have cE:N<=i:=by omega
    have e3:i=N:=by omega
    have bQ:=hid e3;clear e3;generalize aE:(L++reps i sl).length=q1;have aH:=hid aE;clear aE;go_wp2;go_ret;have hw:=aR.o;rw[aH.o] at hw;exact Lt.mk (L:=L++reps i sl) (by rw[bQ.o]) aH.o.symm hw hb HG.o
  have cO:k=.nil:=F.cnt_zero (by rw[aG.2.1];unfold kn;rw[if_neg h3,if_neg h4]);rw[lvs_leaf h3 h4];exact Ys B A n cap l hc hn p x w h hx aG.1 h3 h4 hB A0 n0 c0 L hL h0 (by omega)
def os:List (Nat×Nat)->List Value
 | []=>[]
 | (a,t)::o=>os o++[.int .i64 (a:Int),.int .i64 (t:Int)]
theorem L8(st:List (Nat×Nat)):(os st).length=st.length*2:=by
 induction st with
 | nil=>rfl
 | cons e o ih=>obtain⟨a,t⟩:=e;simp only[os,Aa,ih,Ad,Bh];omega
theorem Wo(a t:Nat)(o:List (Nat×Nat)):(os ((a,t)::o))[o.length*2]? = some (.int .i64 (a:Int))/\(os ((a,t)::o))[o.length*2+1]? = some (.int .i64 (t:Int)):=by
 have:=L8 o;constructor
 ·simp only[os];rw[Cy (by omega),this,Nat.sub_self];rfl
 simp only[os];rw[Cy (by omega),this,show o.length*2+1 - o.length*2=1 by omega];rfl
theorem lf(a t:Nat)(o:List (Nat×Nat))(b:Nat):(os ((a,t)::o)).set (o.length*2) (.int .i64 (b:Int))=os ((b,t)::o):=by
 have:=L8 o;simp only[os];rw[List.set_append_right _ _ (by omega),this,Nat.sub_self];rfl
theorem lh(a t:Nat)(o:List (Nat×Nat))(h:1<=a):(os ((a,t)::o)).set (o.length*2) (.int .i64 ((a:Int) - 1))=os ((a - 1,t)::o):=by
 rw[show (a:Int) - 1=((a - 1:Nat):Int) by omega];exact lf a t o (a - 1)
def Gu(w:World)(B:Nat)(A:Option Addr)(n c:Nat)(st:List (Nat×Nat)):Prop:=n=st.length/\OwnV 174 2 w B A n c (os st)
theorem Gu.nil(w:World)(B:Nat):Gu w B none 0 0 []:=⟨rfl,OwnV.nil _ _ _ _⟩
theorem Ly(B:Nat)(A:Option Addr)(n c:Nat)(st:List (Nat×Nat))(w:World)(h:Gu w B A n c st)(hn:n<=1099511627776):
  Calls Tryz.prog 107 #[.slice A n c] w fun e w'=>e=.returned (.int .i64 (times st:Nat))/\w=w':=by
 obtain⟨h0,h⟩:=h;cases st with
 | nil =>
  simp only[Bh] at h0;subst h0;go_in;go_wp2;go_ret;exact⟨rfl,rfl⟩
 | cons e o =>
  obtain⟨a,t⟩:=e;obtain⟨g,rfl,hg,aA⟩:=h.block (by simp at h0;omega);have h1:=Ah h (o.length*2+1) (by simp at h0;omega);rw[(Wo a t o).2] at h1;simp only[Ad] at h0;generalize o.length=k at h0 h1;subst h0;clear h;have hk:((k:Int)+1 == 0)=false:=Ak.2 (by omega);go_in;go_wp2;go_ret;exact⟨rfl,rfl⟩
theorem OwnV.front{E s:Nat}{w:World}{B:Nat}{A:Option Addr}{n c:Nat}{l:List Value}(h:OwnV E s w B A n c l)(m:Nat)(hm:m<=n):OwnV E s w B A m c (l.take (m*s)):=by
 have h0:m*s<=n*s:=Cd _ hm;refine⟨by rw[Cl,h.1];omega,?_⟩;rcases h.2 with ⟨hv,hz⟩ | ⟨g,cap,aD,hv,aC,hg,aE,aB,aA,ht⟩
 ·refine .inl ⟨?_,by omega⟩;simp only[Value.slice.injEq] at hv |-;exact⟨hv.1,by omega,hv.2.2⟩
 simp only[Value.slice.injEq] at hv;obtain⟨rfl,_,rfl⟩:=hv;refine .inr ⟨g,c,aD,rfl,aC,hg,by omega,aB,aA,?_⟩;rw[<- ht,List.take_take,Nat.min_eq_left h0]
theorem ic(a t:Nat)(o:List (Nat×Nat)):(os ((a,t)::o)).take (o.length*2)=os o:=by
 simp only[os];exact List.take_left' (L8 o)
def W9(B:Nat)(w:World)(st:List (Nat×Nat))(e:Ending)(w':World):Prop:=∃ A n c,e=.returned (.slice A n c)/\Gu w' B A n c st/\Below B w w'
theorem Ye{a t:Nat}{o:List (Nat×Nat)}(h:1 < a):pops ((a,t)::o)=(a - 1,t)::o:=by simp only[pops];rw[if_pos h]
theorem Yf{a t:Nat}{o:List (Nat×Nat)}(h:¬ 1 < a):pops ((a,t)::o)=pops o:=by simp only[pops];rw[if_neg h]
theorem Th(B:Nat)(A:Option Addr)(n c:Nat)(st:List (Nat×Nat))(k p z:Int)(w:World)(h:Gu w B A n c st)(hB:B<=w.heap.size)(hn:n<=1099511627776)(h3:¬ k=3)(h4:¬ k=4)(ha:∀ e∈st,1<=e.1/\e.1<=1099511627776):
  Calls Tryz.prog 104 #[.slice A n c,nd k p z] w (W9 B w (pops st)):=by
 have aP:(k == 3)=false:=Ak.2 h3;have aO:(k == 4)=false:=Ak.2 h4;have aG:Below B w (w.alloc (.cells #[.int .i64 k,.int .i64 p,.int .i64 z] 54)):=(Aj _ _).alloc hB _;have aH:OwnV 174 2 (w.alloc (.cells #[.int .i64 k,.int .i64 p,.int .i64 z] 54)) B A n c (os st):=h.2.below rfl (bl1 _ _);obtain⟨h0,_⟩:=h;have H0:=hid h0;have HA:=hid ha;clear h3 h4 h0 ha;go_in;go_wp2;go_loopw [0,5] (fun q _ wr=>∃(m:Nat) (st':List (Nat×Nat)),q=.slice A m c/\m<=1099511627776/\Gu wr B A m c st'/\pops st'=pops st/\(∀ e∈st',1<=e.1/\e.1<=1099511627776)/\Below B w wr) (fun q _ _=>Qc q)
 case atStart=>exact⟨n,st,rfl,hn,⟨H0.o,aH⟩,rfl,HA.o,aG⟩
 obtain⟨m,st',rfl,hm,⟨aA,hw⟩,hp,ha,hb⟩:=hrel;have HP:=hid hp;have aK:=hid ha;clear hp ha aH aG;cases st' with
 | nil =>
  simp only[Bh] at aA;subst aA;go_wp2;go_ret;exact⟨A,0,c,rfl,by rw[<- HP.o];exact⟨rfl,hw⟩,hb⟩
 | cons e o =>
  obtain⟨a,t⟩:=e;obtain⟨aI,aM⟩:=aK.o (a,t) (by simp);dsimp only at aI aM;obtain⟨g,rfl,hg,aN⟩:=hw.block (by simp at aA;omega);have c0:=Ah hw (o.length*2) (by simp at aA;omega);rw[(Wo a t o).1] at c0;have aB:=Aq hw (o.length*2);have aC:=(World.ownsRow.stored hw (o.length*2) (.int .i64 ((a:Int) - 1))).1;rw[lh a t o aI] at aC;have aE:=hb.setCell (p:=⟨g,o.length*2,none⟩) hg (.int .i64 ((a:Int) - 1));have aD:OwnV 174 2 _ B _ _ c _:=OwnV.front aC o.length (by simp at aA;omega);rw[ic] at aD;have aL:=hw.cap;simp only[Ad] at aA;generalize aF:o.length=q at aA c0 aB aC aE aD;have aJ:=hid aF;clear aF hw;subst aA;by_cases h1:1 < a
  ·go_wp2;go_ret;exact⟨_,q+1,c,rfl,by rw[<- HP.o,Ye h1];exact⟨by simp[aJ.o],aC⟩,aE⟩
  have aQ:a<=1:=by omega
  go_wp2;go_roundw
  case rel=>exact⟨q,o,rfl,by omega,⟨aJ.o.symm,aD⟩,by rw[<- HP.o,Yf (by omega)],fun e he=>aK.o e (by simp[he]),aE⟩
  simp[Qc]
