import Derived.Test.YtfmndmhjjbeokaaGreatDoorLow35
import Derived.LoopTactic
set_option maxHeartbeats 4000000
set_option maxRecDepth 100000
set_option linter.unusedSimpArgs false
set_option linter.unusedVariables false
namespace Go.Proofs.YtfmndmhjjbeokaaGreatDoor
open Go.RowKit Tab
theorem flat_inj:∀(a b:F) (s t:List Nd),a.ok->b.ok->a.cnt=b.cnt->a.flat++s=b.flat++t->a=b/\s=t
 | .nil,.nil,s,t,_,_,_,h=>⟨rfl,by simpa [F.flat] using h⟩
 | .nil,.cons _ _ _,_,_,_,_,hc,_=>by simp[F.cnt] at hc
 | .cons _ _ _,.nil,_,_,_,_,hc,_=>by simp[F.cnt] at hc
 | .cons x k r,.cons y k' r',s,t,ha,hb,hc,h=>by
  simp only[F.flat,Bo,List.cons.injEq,Ar] at h
  obtain⟨rfl,h⟩:=h
  obtain⟨_,hk,aD,aC⟩:=ha
  obtain⟨_,aE,aB,aA⟩:=hb
  obtain⟨rfl,h2⟩:=flat_inj k k' _ _ aD aB (by rw[hk,aE]) h
  obtain⟨rfl,h3⟩:=flat_inj r r' _ _ aC aA (by simp[F.cnt] at hc;exact hc) h2
  exact⟨rfl,h3⟩
theorem Sq{x:Nd}{k:F}(aB:(F.cons x k .nil).ok):ofF (x::k.flat)=(ofz (x::k.flat).length (k.dep+1) (one x k.lvs),tidy (one x k.lvs)):=by
 obtain⟨y,k',aA,hl,e⟩:=Hz (Ge aB);simp only[List.cons.injEq] at hl;obtain⟨rfl,hl⟩:=hl;obtain⟨rfl,_⟩:=flat_inj k k' [] [] aB.2.2.1 aA.2.2.1 (by rw[aB.2.1,aA.2.1]) (by rw[hl]);exact e
theorem cd:∀ i,i < 4->nameF (nmL i)=true:=fun i hi=>by
 rcases(by omega:i=0\/i=1\/i=2\/i=3) with rfl | rfl | rfl | rfl <;> kernel_rfl
theorem lm:∀ i j,i < 4->j < 4->i≠j->decide (nmL i=nmL j)=false:=fun i j hi hj h=>by
 rcases(by omega:i=0\/i=1\/i=2\/i=3) with rfl | rfl | rfl | rfl <;> rcases(by omega:j=0\/j=1\/j=2\/j=3) with rfl | rfl | rfl | rfl <;> first | (exact absurd rfl h) | kernel_rfl
theorem iu{x:PtV}(h:Jr x):∀ j,j < 5->hlF (hv5 x j)=true:=fun j hj=>by
 obtain⟨h0,h1,h2,h3,h4⟩:=h
 unfold hlF
 simp only[Au,Av]
 rcases(by omega:j=0\/j=1\/j=2\/j=3\/j=4) with rfl | rfl | rfl | rfl | rfl
 ·exact h0
 ·exact h1
 ·exact h2
 ·exact h3
 ·exact h4
theorem Z9{n1:Nat}{P:List PtV}{C:List ChV}{T:List TbV}{w:World}(h:RtW n1 P C T w)(hl:P.length=n1)(q1:1<=n1)(q2:n1<=4)(q3:C.length<=3)(q4:1<=T.length)(q5:T.length<=2)
  (hT:∀ t∈T,Mg w w.heap.size t/\Lu t) (aK:∀ x∈C,∀ t∈T,Ew (Dx (E8 t)) x=false) (aG:∀ k x,P[k]? = some x->∀ t∈T,Fb (Dx (E8 t)) k x=false) :
  (D5 (P.map (pq w)) C (T.map ndT)).1=0:=by
 rcases h.dn with hz | hz
 case inr=>exact hz
 have aA:(P.map (pq w)).length=n1:=by rw[Bi,hl]
 rw[Hs]
 ·unfold Eu;rw[aA,Bi];omega
 ·intro j hj;rw[aA] at hj;obtain⟨x,hx⟩:∃ x,P[j]? = some x:=⟨_,Am (by omega)⟩;obtain⟨g1,g2,g3,g4⟩:=h.nm j x hx;have aI:(P.map (pq w))[j]? = some (pq w x):=by rw[Bm,hx];rfl
  have aF:=hz x (An hx);have aJ:=h.pt x (An hx);rw[Wj aI (by show nameF x.name=true;rw[g1];exact cd j (by omega)) fun k y hk hy=>by
   rw[Bm] at hy;cases aC:P[k]? with
   | none=>rw[aC] at hy;cases hy
   | some z =>
    rw[aC] at hy;injection hy with hy;subst hy;show decide (z.name=x.name)=false;rw[(h.nm k z aC).1,g1];exact lm k j (by omega) (by omega) (by omega)]
  have e:Fg (pq w x).1 (pq w x).2=true:=by
   show Fg x (prL w x.pa x.pn)=true;rw[P7 g3.1 (by omega) (fun j q hq=>Ct.1 (ld aJ.procs) q (An hq)) (iu g2),aF.1,aF.2];rfl
  rw[if_pos e]
 ·intro j hj;obtain⟨x,hx⟩:∃ x,C[j]? = some x:=⟨_,Am hj⟩;rw[Vs hx,aA];have hc:=h.ch x (An hx);have e:Hi x (n1:Int)=true:=by
   obtain⟨⟨a1,a2,a3,a4,_,_⟩,⟨a5,a6⟩,a7,a8⟩:=hc;unfold Hi;rw[Ae a1,Ae a2,Ae a3,Ae a4,Ae a5,Ae a6,Ae a7];cases hq:x.queue with
   | true =>
    rw[hq] at a8;rw[Ae (if_pos rfl▸a8).1,Ae (if_pos rfl▸a8).2];rfl
   | false =>
    rw[hq] at a8;have a9:x.cap=0:=a8;rw[a9];rfl
  rw[if_pos e]
 intro j hj;rw[Bi] at hj;obtain⟨t,ht⟩:∃ t,T[j]? = some t:=⟨_,Am hj⟩;have aB:=An ht;obtain⟨aE,aL⟩:=hT t aB;rw[Np (by rw[Bm,ht];rfl)];show tbW (P.map (pq w)) C (t.x::t.k.flat)=0;unfold tbW;rw[Sq aE.ok];have hn:(t.x::t.k.flat).length=t.n:=aE.rd.len;dsimp only;rw[hn,aL.1,if_pos rfl,aA];have ha:(tidy (one t.x t.k.lvs)).any (fun r=>decide ((n1:Int)<=r.p))=false:=by
  rw[List.any_eq_false];intro r hr;have hq:=h.tq t aB;have h1:∀ r∈one t.x t.k.lvs,r.p < (n1:Int):=one_parts (by omega) (hq t.x (by simp)).2 (lvs_parts (by omega) t.k fun y hy=>(hq y (by simp[hy])).2);have h2:=tidy_part hr;obtain⟨r',aH,e⟩:=h2;have:=h1 r' aH;simp;omega
 rw[ha,if_neg (by decide)];have aD:(P.map (pq w)).map Prod.fst=P:=by
  rw[List.map_map];exact List.map_id P
 rw[aD];exact Mc (by
  rw[List.any_eq_false];intro x hx;have:=aK x hx t aB;rw[show tidy (one t.x t.k.lvs)=E8 t from rfl,this];decide) (Uf.2 fun k x hx=>aG k x hx t aB)
def Qdb(B b:Nat)(A:Option Addr)(m c:Nat)(f:Nat->Int)(Q X D:Nat)(w:World)(e:Ending)(w':World):Prop :=
 ∃(x:Nd) (k:F) (A':Option Addr) (n' c' at':Nat),e=.returned (.slice A' n' c')/\(F.cons x k .nil).ok/\Ft w' w.heap.size A' n' c' (x::k.flat)/\k.sz+1<=X/\k.dep<=D/\(∀ y∈x::k.flat,0<=y.p/\y.p < (Q:Int)/\y.n<=4)/\Eb w' B b A m c f at'/\w.grownBy w' (some b)
theorem Qcn(B b:Nat)(A:Option Addr)(m c:Nat)(f:Nat->Int)(hm:m<=140737488351232)(parts:Nat)(aR:1<=parts)(bQ:parts<=6)(d:Nat):∀(at_:Nat) (w:World),d<=6->Eb w B b A m c f at_->
  Calls Tryz.prog 10 #[.pointer (some ⟨b,0,none⟩),.int .i64 (parts:Int),.int .i64 (d:Int)] w (Qdb B b A m c f parts (5 ^ (d+1)) d w):=by
 induction d with
 | zero =>
  intro at_ w hd T;have hX:5 ^ (0+1)=5:=rfl;rw[hX];clear hX;go_in;go_wp2_with fail;refine(D6 B b A m c f at_ 7 _ w T rfl (by omega) (by omega) hm).mono ?_;rintro e w1⟨k,aD,hk,rfl,T1,G1⟩;by_cases aO:k=0
  ·subst aO;go_wp2_with fail;refine(D6 B b A m c f aD 4 _ w1 T1 rfl (by omega) (by omega) hm).mono ?_;rintro e w2⟨j,aC,hj,rfl,T2,G2⟩;go_wp2;go_ret;exact⟨⟨2,0,1+(j:Int)⟩,.nil,_,1,1,aC,rfl,⟨(Em _ _ _).2 (by omega),by simp[F.cnt,kn],trivial,trivial⟩,Ft.lit w2 w.heap.size #[.int .i64 2,.int .i64 0,.int .i64 (1+(j:Int))] [⟨2,0,1+(j:Int)⟩] 1 rfl rfl (Ai G1.size G2.size) (by omega) (by intro x hx;simp at hx;subst hx;exact Ff (by omega) (by omega) (by omega)),by simp only[F.sz];omega,by simp only[F.dep];omega,(by intro y hy;simp[F.flat] at hy;subst hy;dsimp only;omega),T2.below (bl1 w2 _) T2.lt,Es (D8 G1 G2) _⟩
  have aN:((k:Int) == 0)=false:=Ak.2 (by omega);go_wp2_with fail;refine(D6 B b A m c f aD parts _ w1 T1 rfl aR (by omega) hm).mono ?_;rintro e w2⟨p,aC,hp,rfl,T2,G2⟩;go_wp2_with fail;refine(D6 B b A m c f aC 4 _ w2 T2 rfl (by omega) (by omega) hm).mono ?_;rintro e w3⟨j,aE,hj,rfl,T3,G3⟩;go_wp2;go_ret;exact⟨⟨1,(p:Int),1+(j:Int)⟩,.nil,_,1,1,aE,rfl,⟨(Em _ _ _).2 (by omega),by simp[F.cnt,kn],trivial,trivial⟩,Ft.lit w3 w.heap.size #[.int .i64 1,.int .i64 (p:Int),.int .i64 (1+(j:Int))] [⟨1,(p:Int),1+(j:Int)⟩] 1 rfl rfl (Ai G1.size (Ai G2.size G3.size)) (by omega) (by intro x hx;simp at hx;subst hx;exact Ff (by omega) (by omega) (by omega)),by simp only[F.sz];omega,by simp only[F.dep];omega,(by intro y hy;simp[F.flat] at hy;subst hy;dsimp only;omega),T3.below (bl1 w3 _) T3.lt,Es (D8 G1 (D8 G2 G3)) _⟩
 | succ d ih =>
  intro at_ w hd T;have aQ:=hid ih;clear ih;have hX:5 ^ (d+1)<=78125:=Ai (Nat.pow_le_pow_right (by omega) (show d+1<=7 by omega)) (by decide);have aY:5 ^ (d+1+1)=5*5 ^ (d+1):=by rw[Nat.pow_succ,Nat.mul_comm]
  have bM:1<=5 ^ (d+1):=Nat.pow_pos (by omega);rw[aY];generalize 5 ^ (d+1)=X at hX bM aQ |-;clear aY;have bU:decide (((d+1:Nat):Int) < 1)=false:=Ac (by omega);go_in;go_wp2_with fail;refine(D6 B b A m c f at_ 7 _ w T rfl (by omega) (by omega) hm).mono ?_;rintro e w1⟨k,aD,hk,rfl,T1,G1⟩;by_cases bS:k < 2
  ·by_cases aO:k=0
   ·subst aO;go_wp2_with fail;refine(D6 B b A m c f aD 4 _ w1 T1 rfl (by omega) (by omega) hm).mono ?_;rintro e w2⟨j,aC,hj,rfl,T2,G2⟩;go_wp2;go_ret;exact⟨⟨2,0,1+(j:Int)⟩,.nil,_,1,1,aC,rfl,⟨(Em _ _ _).2 (by omega),by simp[F.cnt,kn],trivial,trivial⟩,Ft.lit w2 w.heap.size #[.int .i64 2,.int .i64 0,.int .i64 (1+(j:Int))] [⟨2,0,1+(j:Int)⟩] 1 rfl rfl (Ai G1.size G2.size) (by omega) (by intro x hx;simp at hx;subst hx;exact Ff (by omega) (by omega) (by omega)),by simp only[F.sz];omega,by simp only[F.dep];omega,(by intro y hy;simp[F.flat] at hy;subst hy;dsimp only;omega),T2.below (bl1 w2 _) T2.lt,Es (D8 G1 G2) _⟩
   have aN:((k:Int) == 0)=false:=Ak.2 (by omega);go_wp2_with fail;refine(D6 B b A m c f aD parts _ w1 T1 rfl aR (by omega) hm).mono ?_;rintro e w2⟨p,aC,hp,rfl,T2,G2⟩;go_wp2_with fail;refine(D6 B b A m c f aC 4 _ w2 T2 rfl (by omega) (by omega) hm).mono ?_;rintro e w3⟨j,aE,hj,rfl,T3,G3⟩;go_wp2;go_ret;exact⟨⟨1,(p:Int),1+(j:Int)⟩,.nil,_,1,1,aE,rfl,⟨(Em _ _ _).2 (by omega),by simp[F.cnt,kn],trivial,trivial⟩,Ft.lit w3 w.heap.size #[.int .i64 1,.int .i64 (p:Int),.int .i64 (1+(j:Int))] [⟨1,(p:Int),1+(j:Int)⟩] 1 rfl rfl (Ai G1.size (Ai G2.size G3.size)) (by omega) (by intro x hx;simp at hx;subst hx;exact Ff (by omega) (by omega) (by omega)),by simp only[F.sz];omega,by simp only[F.dep];omega,(by intro y hy;simp[F.flat] at hy;subst hy;dsimp only;omega),T3.below (bl1 w3 _) T3.lt,Es (D8 G1 (D8 G2 G3)) _⟩
  by_cases bH:k=2
  ·subst bH;go_wp2_with fail;refine(D6 B b A m c f aD 3 _ w1 T1 rfl (by omega) (by omega) hm).mono ?_;rintro e w2⟨j,aC,hj,rfl,T2,G2⟩;go_wp2_with fail;have ql:=Ft.lit w2 w.heap.size #[.int .i64 4,.int .i64 0,.int .i64 (1+(j:Int))] [⟨4,0,1+(j:Int)⟩] 1 rfl rfl (Ai G1.size G2.size) (by omega) (by intro x hx;simp at hx;subst hx;exact Ff (by omega) (by omega) (by omega));have T3:=T2.below (bl1 w2 (.cells #[.int .i64 4,.int .i64 0,.int .i64 (1+(j:Int))] 54)) T2.lt;have G3:=Es (D8 G1 G2) (.cells #[.int .i64 4,.int .i64 0,.int .i64 (1+(j:Int))] 54);refine(aQ.o aC _ (by omega) T3).mono ?_;rintro e w4⟨x,k,A4,n4,c4,bO,rfl,aK,aA,bE,bL,bF,T4,G4⟩;have aI:b < w.heap.size:=T.lt;have bB:=ql.gb G4 aI;have G5:=D8 G3 G4;have aG:=aA.len;simp only[Ad,F.flat_length] at aG;go_wp2_with (at_builtin;go_loud (refine Ej elN rfl (.tmp 40) (.tmp 45) rfl rfl w.heap.size _ 1 1 _ rfl bB.own A4 n4 c4 _ _ rfl aA.own.rd (by rw[Fy,aA.len]) (Je _) (by omega) (by unfold maxLen;omega) G5.size (1+n4) rfl _ rfl ?_;intro A5 c5 w5 bD aX _));go_ret;refine⟨⟨4,0,1+(j:Int)⟩,.cons x k .nil,A5,1+n4,c5,bO,rfl,⟨(Em _ _ _).2 (by omega),by simp[F.cnt,kn],aK,trivial⟩,⟨?_,?_,?_⟩,?_,?_,?_,T4.below aX aI,F8 G5 aX (Ag _)⟩
   ·simp only[Ad,F.flat,Az,F.flat_length];omega
   ·have e:(F.cons x k .nil).flat=x::k.flat:=by simp[F.flat]
    rw[e];exact bD
   ·intro y hy;have e:(F.cons x k .nil).flat=x::k.flat:=by simp[F.flat]
    rw[e] at hy;rcases Ba.1 hy with rfl | hy
    ·exact Ff (by omega) (by omega) (by omega)
    exact aA.bd y hy
   ·simp only[F.sz];omega
   ·simp only[F.dep];omega
   intro y hy;have e:(F.cons x k .nil).flat=x::k.flat:=by simp[F.flat]
   rw[e] at hy;rcases Ba.1 hy with rfl | hy
   ·dsimp only;omega
   exact bF y hy
  have bG:((k:Int) == 2)=false:=Ak.2 (by omega);go_wp2_with fail;refine(D6 B b A m c f aD 4 _ w1 T1 rfl (by omega) (by omega) hm).mono ?_;rintro e w2⟨j,aC,hj,rfl,T2,G2⟩;have aI:b < w.heap.size:=T.lt;have ql:=Ft.lit w2 w.heap.size #[.int .i64 3,.int .i64 0,.int .i64 (1+(j:Int))] [⟨3,0,1+(j:Int)⟩] 1 rfl rfl (Ai G1.size G2.size) (by omega) (by intro x hx;simp at hx;subst hx;exact Ff (by omega) (by omega) (by omega));have T3:=T2.below (bl1 w2 (.cells #[.int .i64 3,.int .i64 0,.int .i64 (1+(j:Int))] 54)) T2.lt;have G3:=Es (D8 G1 G2) (.cells #[.int .i64 3,.int .i64 0,.int .i64 (1+(j:Int))] 54);go_wp2_with fail;generalize w2.alloc (.cells #[.int .i64 3,.int .i64 0,.int .i64 (1+(j:Int))] 54)=w3 at ql T3 G3 |-;go_loopw [9,10] (fun q s wr=>∃(i:Nat) (g:F) (A1:Option Addr) (n1 c1 bP:Nat),i<=1+j/\s=.int .i64 i/\q=.slice A1 n1 c1/\g.ok/\g.cnt=i/\Ft wr w.heap.size A1 n1 c1 (⟨3,0,1+(j:Int)⟩::g.flat)/\g.sz<=i*X/\g.dep<=d+1/\(∀ y∈g.flat,0<=y.p/\y.p < (parts:Int)/\y.n<=4)/\Eb wr B b A m c f bP/\w.grownBy wr (some b)) (fun _ s _=>1+j - (intOf s).toNat)
  case atStart=>exact⟨0,.nil,_,1,1,aC,by omega,rfl,rfl,trivial,rfl,ql,by simp[F.sz],by simp[F.dep],(fun y hy=>by simp[F.flat] at hy),T3,G3⟩
  obtain⟨i,g,A1,n1,c1,aE,hi,rfl,rfl,aH,aU,aA,bT,bK,aT,T4,G4⟩:=hrel;have aZ:=hid aH;have bA:=hid aU;have aP:=hid aA.len;have bJ:(i+1)*X=i*X+X:=Db i X;have bI:i*X<=4*X:=Cd _ (by omega);clear aH aU T1 T2 T3 G1 G2 G3 ql;by_cases bR:i < 1+j
  ·have aL:decide ((i:Int) < 1+(j:Int))=true:=Ae (by omega);go_wp2_with fail;refine(aQ.o aE _ (by omega) T4).mono ?_;rintro e w5⟨x,kk,A5,n5,c5,bN,rfl,aK,aB,bE,bL,aJ,T5,G5⟩;have q5:=aA.gb G5 aI;have G6:=D8 G4 G5;have aF:=aB.len;have aM:=aP.o;simp only[Ad,F.flat_length] at aF aM;go_wp2_with (at_builtin;go_loud (refine Ej elN rfl (.tmp 58) (.tmp 63) rfl rfl w.heap.size _ n1 c1 _ rfl q5.own A5 n5 c5 _ _ rfl aB.own.rd (by rw[Fy,aB.len]) (Je _) (by omega) (by unfold maxLen;omega) G6.size (n1+n5) rfl _ rfl ?_;intro A6 c6 w6 bC aV _));go_roundw
   case rel =>
    have e:(g.app (.cons x kk .nil)).flat=g.flat++x::kk.flat:=by rw[F.app_flat];simp[F.flat]
    refine⟨i+1,g.app (.cons x kk .nil),A6,n1+n5,c6,bN,by omega,by go_num,rfl,F.app_ok aZ.o aK,by rw[F.app_cnt,bA.o];rfl,⟨?_,?_,?_⟩,?_,?_,?_,T5.below aV aI,F8 G6 aV (Ag _)⟩
    ·rw[e];simp only[Ad,Aa,F.flat_length];omega
    ·rw[e,<- Bo,H9];exact bC
    ·intro y hy;rw[e,<- Bo] at hy;rcases Ay.1 hy with hy | hy
     ·exact aA.bd y hy
     exact aB.bd y hy
    ·rw[F.app_sz,bJ];simp only[F.sz];omega
    ·rw[F.app_dep];simp only[F.dep];omega
    intro y hy;rw[e] at hy;rcases Ay.1 hy with hy | hy
    ·exact aT y hy
    exact aJ y hy
   simp[intOf];omega
  have aL:decide ((i:Int) < 1+(j:Int))=false:=Ac (by omega);go_wp2;go_ret;refine⟨⟨3,0,1+(j:Int)⟩,g,A1,n1,c1,aE,rfl,⟨(Em _ _ _).2 (by omega),?_,aZ.o,trivial⟩,aA,by omega,bK,?_,T4,G4⟩
  rotate_left
  ·intro y hy;rcases Ba.1 hy with rfl | hy
   ·dsimp only;omega
   exact aT y hy
  have:=bA.o;simp only[kn];rw[if_pos trivial];omega
def Qbe(Q X D:Nat)(w:World)(e:Ending)(w':World):Prop :=
 ∃(x:Nd) (k:F) (A':Option Addr) (n' c':Nat),e=.returned (.slice A' n' c')/\(F.cons x k .nil).ok/\RdN w' w'.heap.size A' n' (x::k.flat)/\n'<=c'/\k.sz+1<=X/\k.dep<=D/\(∀ y∈x::k.flat,0<=y.p/\y.p < (Q:Int)/\y.n<=4)/\Below w.heap.size w w'
theorem kr(A:Option Addr)(n cap:Nat)(f:Nat->Int)(w:World)(P D:Int)(parts d:Nat)(hP:P=(parts:Int))(hD:D=(d:Int))(aD:1<=parts)(aC:parts<=6)(hd:d<=6)(h:RdC w w.heap.size A n fun j=>.int .i64 (f j))(hn:n<=140737488351232):
  Calls Tryz.prog 10 #[.pointer (some ⟨w.heap.size,0,none⟩),.int .i64 P,.int .i64 D] (w.alloc (.cells #[.slice A n cap,.int .i64 0] 26)) (Qbe parts (5 ^ (d+1)) d w):=by
 subst hP;subst hD;refine(Qcn w.heap.size w.heap.size A n cap f hn parts aD aC d 0 _ hd (Nq A n cap f w h)).mono ?_;rintro e w1⟨x,k,A',n',c',aG,rfl,aE,aA,aB,aF,hq,T1,G1⟩;exact⟨x,k,A',n',c',rfl,aE,aA.rdn,aA.cap,aB,aF,hq,Oi G1⟩
end Go.Proofs.YtfmndmhjjbeokaaGreatDoor
namespace Go.Proofs.YtfmndmhjjbeokaaGreatDoor
open Go.RowKit Tab Txt
theorem ee{w:World}{b o:Nat}{v:Value}(h0:w.cell? ⟨b,0,none⟩=some v)(h2:w.cell? ⟨b,2,none⟩=none)(ho:2<=o):w.cell? ⟨b,o,none⟩=none:=by
 unfold World.cell? at h0 h2 |-;dsimp only at h0 h2 |-;split at h0
 ·rename_i c t fr e;rw[e] at h2;simp only[Option.isSome_none,Bool.false_eq_true,if_false] at h2 |-;rw[Array.getElem?_eq_none_iff] at h2 |-;omega
 cases h0
theorem Lb{w w':World}{B b:Nat}{A:Option Addr}{m c:Nat}{f:Nat->Int}{at_ aF:Nat}(T:Eb w B b A m c f at_)(T':Eb w' B b A m c f aF)(hg:w.grownBy w' (some b)){A1:Option Addr}{l:List Value}{B1:Nat}(h:RdV w B1 A1 l)
  (h0:∀ z,l[0]? = some (.int .i64 z)->1 < l.length) (h1:∀ z,l[1]? = some (.int .i64 z)->∀ A n c,l[0]?≠some (.slice A n c)):RdV w' B1 A1 l:=by
 intro aA;obtain⟨ad,rfl,aD,hc⟩:=h aA;refine⟨ad,rfl,aD,fun j v hj=>?_⟩;have hv:=hc j v hj;by_cases hb:ad.block=b
 ·have c0:=hc 0 l[0] (Am aA);have aC:ad.spot=none:=by
   have e:ad.add 0=ad:=by simp[Addr.add]
   rw[e] at c0;unfold World.cell? at c0;split at c0
   ·split at c0
    ·cases c0
    rename_i hs;cases e2:ad.spot with
    | none=>rfl
    | some x=>rw[e2] at hs;exact absurd rfl hs
   cases c0
  have aB:∀ i,ad.add i=⟨b,ad.off+i,none⟩:=fun i=>by
   unfold Addr.add;split
   ·rename_i e;subst e;obtain⟨x,y,z⟩:=ad;dsimp only at hb aC |-;rw[hb,aC,Nat.add_zero]
   obtain⟨x,y,z⟩:=ad;dsimp only at hb |-;rw[hb]
  rw[aB] at hv |-;rcases(by omega:ad.off+j=0\/ad.off+j=1\/2<=ad.off+j) with e | e | e
  ·rw[e] at hv |-;rw[T'.c0,<- T.c0];exact hv
  ·exfalso;rw[e,T.c1] at hv;injection hv with hv;subst hv;rcases(by omega:j=0\/(j=1/\ad.off=0)) with e1 | ⟨e1,e2⟩
   ·subst e1;have hl:=h0 _ hj;have:=hc 1 l[1] (Am hl);rw[aB,show ad.off+1=2 by omega,T.two] at this;cases this
   subst e1;rw[aB,e2,T.c0] at c0;injection c0 with c0;exact h1 _ hj _ _ _ (by rw[Am aA,<- c0])
  rw[ee T.c0 T.two e] at hv;cases hv
 have aE:(ad.add j).block=ad.block:=Eh ad j;refine(Bf (hg.block _ ?_ ?_)).trans hv
 ·exact Bj w _ hv
 rw[aE];intro e;injection e with e;exact hb e
theorem CfR.tape{w w':World}{B b:Nat}{A:Option Addr}{m c:Nat}{f:Nat->Int}{at_ aA:Nat}(T:Eb w B b A m c f at_)(T':Eb w' B b A m c f aA)(hg:w.grownBy w' (some b)){x:Cf}(h:CfR w x):CfR w' x:=by
 refine⟨⟨h.pp.len,((Lb T T' hg h.pp.rd ?_ ?_)).more hg.size⟩,⟨h.ch.len,(Lb T T' hg h.ch.rd ?_ ?_).more hg.size⟩,⟨h.tb.len,(Lb T T' hg h.tb.rd ?_ ?_).more hg.size⟩,fun y hy=>⟨⟨(h.pt y hy).1.per,(h.pt y hy).1.name,(h.pt y hy).1.procs.len,(Lb T T' hg (h.pt y hy).1.procs.rd ?_ ?_).more hg.size⟩,(h.pt y hy).2⟩,fun t ht=>⟨⟨(h.tt t ht).rd.len,(Lb T T' hg (h.tt t ht).rd.rd ?_ ?_).more hg.size,(h.tt t ht).rd.bd⟩,(h.tt t ht).cap,(h.tt t ht).few⟩,h.k1,h.k2,h.k3,h.m1,h.m2,h.m3,h.z⟩
 ·intro z e;cases hP:x.P with
  | nil=>rw[hP] at e;cases e
  | cons y l=>rw[hP] at e;cases e
 ·intro z e A n c e2;cases hP:x.P with
  | nil=>rw[hP] at e2;cases e2
  | cons y l=>rw[hP] at e2;cases e2
 ·intro z e;cases hP:x.C with
  | nil=>rw[hP] at e;cases e
  | cons y l=>simp[cc]
 ·intro z e A n c e2;cases hP:x.C with
  | nil=>rw[hP] at e2;cases e2
  | cons y l=>rw[hP] at e2;cases e2
 ·intro z e;cases hP:x.T with
  | nil=>rw[hP] at e;cases e
  | cons y l=>rw[hP] at e;cases e
 ·intro z e A n c e2;cases hP:x.T with
  | nil=>rw[hP] at e;cases e
  | cons y l =>
   cases l with
   | nil=>rw[hP] at e;cases e
   | cons y2 l=>rw[hP] at e;cases e
 ·intro z e;cases hP:y.2 with
  | nil=>rw[hP] at e;cases e
  | cons q l=>simp[prc]
 ·intro z e A n c e2;cases hP:y.2 with
  | nil=>rw[hP] at e2;cases e2
  | cons q l=>rw[hP] at e2;cases e2
 ·intro z e;cases hP:t.l with
  | nil=>rw[hP] at e;cases e
  | cons q l=>simp[ns]
 intro z e A n c e2;cases hP:t.l with
 | nil=>rw[hP] at e2;cases e2
 | cons q l=>rw[hP] at e2;cases e2
structure TxC(y:Cf)(Fs:List F)(w:World):Prop where
 rd:CfR w y
 sm:SmX 16 y
 ri:RiX y
 fl:Fs.length=y.n3
 ff:∀(i:Nat) (t:NdT) (f:F),y.T[i]? = some t->Fs[i]? = some f->∃ z k,f=.cons z k .nil/\f.ok/\t.l=z::k.flat
 mx:∀ x∈y.C,0<=x.max/\x.max<=4294967295
 pp:∀ t∈y.T,∀ z∈t.l,z.k=1->z.p < y.n1
 len:(textT (linesT y.P y.C Fs)).length<=7000
 back:parseP (textT (linesT y.P y.C Fs))=(0,0,⟨y.P.map Ec,y.C,y.T.map fun t=>ndT0 t.l⟩)
 rem:parseP ([35,10,10]++(textT (linesT y.P y.C Fs)++[10,35,32,101,110,100]))=(0,0,⟨y.P.map Ec,y.C,y.T.map fun t=>ndT0 t.l⟩)
 free:∀ z∈linesT y.P y.C Fs,(10:UInt8) ∉ z
 lin:linesP 0 cft0 (linesT y.P y.C Fs++[[]])=.inr ⟨y.P.map Ec,y.C,y.T.map fun t=>ndT0 t.l⟩
theorem Xr(B b:Nat)(A:Option Addr)(m c:Nat)(f:Nat->Int)(hm:m<=140737488351232)(at_:Nat)(w:World)(T0:Eb w B b A m c f at_):
  Calls Tryz.prog 8 #[.pointer (some ⟨b,0,none⟩)] w (fun e w'=>∃ y Fs aH,e=.returned (cfv y)/\TxC y Fs w'/\Eb w' B b A m c f aH/\w.grownBy w' (some b)):=by
 refine(Tf B b A m c f hm at_ w T0).mono ?_;rintro e w1⟨A1,A2,A3,n1,n2,n3,c1,c2,c3,P,C,T,aH,rfl,bC,q1,q2,q3,q4,q5,aX,hT,aA,q6,q7,q8,TW,G1,aQ,aT,aN,_,_,_,_,_,aB⟩;obtain⟨hP,hC⟩:=bC;have aL:P.length=n1:=hP.len;have bD:C.length=n2:=hC.len;have aZ:T.length=n3:=hT.len;have aG:∀ x∈P,(1<=x.pn/\x.pn<=2)/\x.pn<=x.pc:=fun x hx=>by
  obtain⟨i,hi⟩:=Bl hx;exact(aB.nm i x hi).2.2
 have aC:∀ t∈T,t.n<=128:=fun t ht=>(L9 (aA t ht).2.1).1;obtain⟨y,hy⟩:∃ y:Cf,y=⟨A1,A2,A3,n1,n2,n3,c1,c2,c3,P.map (pq w1),C,T.map ndT⟩:=⟨_,rfl⟩;have aK:CfR w1 y:=by
  rw[hy];refine⟨hP.pq w1,hC,hT.ndt,fun y hy=>?_,fun y hy=>?_,q4,q5,q8,by show n1<=_;omega,by show n2<=_;omega,by show n3<=_;omega,by show n1*104<=_;omega,by show n2*48<=_;omega,by show n3*24<=_;omega,fun y hy=>?_,fun y hy=>?_⟩
  ·obtain⟨x,hx,rfl⟩:=By.1 hy;have h1:=aG x hx;exact⟨(aB.pt x hx).ax,h1.2,by show x.pn<=_;omega⟩
  ·obtain⟨t,ht,rfl⟩:=By.1 hy;exact(aA t ht).1.nd
  ·obtain⟨x,hx,rfl⟩:=By.1 hy;have h1:=aG x hx;show x.pn*16<=_;omega
  obtain⟨t,ht,rfl⟩:=By.1 hy;have h1:=aC t ht;show t.n*24<=_;omega
 have aO:SmX 16 y:=by
  rw[hy];refine⟨q1,by show n1<=_;omega,by show n2<=_;omega,by show n3<=_;omega,fun y hy=>?_,fun y hy=>?_⟩
  ·obtain⟨x,hx,rfl⟩:=By.1 hy;have h1:=aG x hx;show x.pn<=16;omega
  obtain⟨t,ht,rfl⟩:=By.1 hy;have h1:=aC t ht;show t.n<=_;omega
 have aM:(whF y).1=0:=by
  have h3:C.length<=3:=by omega
  have h4:1<=T.length:=by omega
  have h5:T.length<=2:=by omega
  rw[hy];exact Z9 aB aL q1 q2 h3 h4 h5 aA aT aN
 have aE:=RiX.of aM;have bA:y.P.length=n1:=by rw[hy];show (P.map (pq w1)).length=n1;rw[Bi];exact aL
 have aI:y.C=C:=by rw[hy]
 have aF:y.T=T.map ndT:=by rw[hy]
 have aJ:∀ x∈y.C,0<=x.max/\x.max<=4294967295:=fun x hx=>by
  rw[aI] at hx;exact(aX x hx).2.2.2.2
 have aP:∀ z∈y.P,Ie z/\z.2.length=z.1.pn:=fun z hz=>by
  obtain⟨k,hk⟩:=Bl hz;exact⟨Ie.of hk (aE.pt k (Af.1 hk).1),aK.lens z hz⟩
 have aR:∀ x∈y.C,Kc y.P.length x:=fun x hx=>by
  obtain⟨k,hk⟩:=Bl hx;exact Kc.of hk (aE.ch k (Af.1 hk).1) (aJ x hx)
 have aU:∀ ff∈T.map (fun t=>F.cons t.x t.k .nil),V7 y.P.length ff/\(∀ z∈ff.flat,z.n.toNat < 100000)/\ff.sz<=128:=fun ff hf=>by
  obtain⟨t,ht,rfl⟩:=By.1 hf;rw[bA];exact fp (aA t ht).1.ok (aA t ht).2.1 (by have:=(aA t ht).1.rd.len;rw[Ad,F.flat_length] at this;exact this) (aB.tq t ht)
 have bB:(T.map fun t=>F.cons t.x t.k .nil).map (fun ff=>ndT0 ff.flat)=y.T.map fun t=>ndT0 t.l:=by
  rw[aF,List.map_map,List.map_map];refine List.map_congr_left fun t ht=>?_;show ndT0 (F.cons t.x t.k .nil).flat=ndT0 (ndT t).l;have e:(F.cons t.x t.k .nil).flat=t.x::t.k.flat:=by simp[F.flat]
  rw[e];rfl
 have aY:y.C.length<=3:=by rw[aI];omega
 have aV:(T.map fun t=>F.cons t.x t.k .nil).length<=2:=by rw[Bi];omega
 have aD:=Xp (x:=y) aE aP aR aU bB (by omega) aY aV;refine⟨y,T.map (fun t=>F.cons t.x t.k .nil),aH,by rw[hy],⟨aK,aO,aE,by rw[Bi,aZ,hy],fun i t ff ht hf=>?_,aJ,fun t ht z hz hk=>?_,aD.1,aD.2.1,aD.2.2.1,aD.2.2.2.1,aD.2.2.2.2⟩,TW,G1⟩
 ·rw[aF,Bm] at ht;rw[Bm] at hf;cases e:T[i]? with
  | none=>rw[e] at hf;cases hf
  | some u =>
   rw[e] at hf ht;injection hf with hf;injection ht with ht;exact⟨u.x,u.k,hf.symm,by rw[<- hf];exact(aA u (An e)).1.ok,by rw[<- ht];rfl⟩
 rw[aF] at ht;obtain⟨u,hu,rfl⟩:=By.1 ht;have:=(aB.tq u hu z hz).2;rw[hy];exact this
theorem ki:Elt 39 9 1 16 (.string ⟨#[]⟩):=⟨Tryz.underlying39,by kernel_rfl,rfl,by omega⟩
theorem Ih(m:Nat)(hm:m<=1048576)(W:World):(Instr.makeSlice 39 (.int .i64 (m:Int)) (.int .i64 (m:Int))).run Tryz.prog W=.ok (.slice (some ⟨W.heap.size,0,none⟩) m m) (W.alloc (.cells (madeCells #[.string ⟨#[]⟩] m) 9)):=by
 obtain⟨i,hi,hz,hs,aA⟩:=info_parts ki.hi;have hr:=run_make (P:=Tryz.prog) W 39 9 i _ ki.ht hi hz .i64 .i64 m m (by omega) (by omega) (by rw[aA];omega) (by omega);rw[hs] at hr;simp only[Bx,Cj] at hr;exact hr
theorem Jz(n:Nat):(madeCells #[Value.string ⟨#[]⟩] n).toList=List.replicate n (.string ⟨#[]⟩):=by
 apply List.ext_getElem?;intro i;rw[Array.getElem?_toList];rcases Bk i n with h | h
 ·have h1:=Sv (Value.string ⟨#[]⟩) n i h;rw[h1,List.getElem?_replicate,if_pos h]
 rw[Dn (by simp[size_madeCells];omega),Bw (by simp;omega)]
def Ga(L:List (List UInt8))(n i:Nat):List Value:=(L.take i).flatMap sc++List.replicate (n - i) (.string ⟨#[]⟩)
theorem M6(L:List (List UInt8))(n:Nat):Ga L n 0=List.replicate n (.string ⟨#[]⟩):=by simp[Ga]
theorem Ju{L:List (List UInt8)}{n:Nat}(h:L.length=n):Ga L n n=L.flatMap sc:=by
 unfold Ga;rw[Bd (by omega),Nat.sub_self];simp
theorem gd(L:List (List UInt8)):(L.flatMap sc).length=L.length:=by rw[Rg,Bi]
theorem Jt{L:List (List UInt8)}{n i:Nat}{x:List UInt8}(hi:i < n)(hx:L[i]? = some x):(Ga L n i).set i (.string (bsOf x))=Ga L n (i+1):=by
 have aA:=(Af.1 hx).1;unfold Ga;have hl:((L.take i).flatMap sc).length=i:=by rw[gd,Cl];omega
 rw[List.set_append_right _ _ (by omega),hl,Nat.sub_self];obtain⟨k,hk⟩:∃ k,n - i=k+1:=⟨n - i - 1,by omega⟩;rw[hk,show n - (i+1)=k by omega,Dp,Bp,List.take_add_one,hx];simp[sc]
def Pf(nm:Int->List UInt8):F->List (List UInt8)
 | .nil=>[]
 | .cons x k r=>txN nm x (txX nm k false)::Pf nm r
theorem S7(nm:Int->List UInt8):∀ f:F,(Pf nm f).length=f.cnt
 | .nil=>rfl
 | .cons x k r=>by simp[Pf,F.cnt,S7 nm r]
theorem Qe(nm:Int->List UInt8):∀ f:F,txX nm f false=joinB 44 (Pf nm f)
 | .nil=>rfl
 | .cons x k .nil=>by
  show ([]:List UInt8)++(txN nm x (txX nm k false)++txX nm .nil true)=txN nm x (txX nm k false)
  simp[txX]
 | .cons x k (.cons y k2 r)=>by
  have ih:=Qe nm (.cons y k2 r)
  show ([]:List UInt8)++(txN nm x (txX nm k false)++txX nm (.cons y k2 r) true)=txN nm x (txX nm k false)++44::joinB 44 (Pf nm (.cons y k2 r))
  rw[<- ih,txX_comma,Cw]
theorem Wu(nm:Int->List UInt8):∀(f:F) (i:Nat) (y:Nd) (k r:F),F.dr i f=.cons y k r->(Pf nm f)[i]? = some (txN nm y (txX nm k false))
 | .nil,i,y,k,r,h=>by cases i <;> simp[F.dr] at h
 | .cons x k' r',0,y,k,r,h=>by
  have h:F.cons x k' r'=.cons y k r:=h
  injection h with h1 h2 h3
  rw[h1,h2]
  rfl
 | .cons x k' r',i+1,y,k,r,h=>by
  have:=Wu nm r' i y k r h
  show (txN nm x (txX nm k' false)::Pf nm r')[i+1]? = _
  rw[C9]
  exact this
def Qbg(t:List UInt8)(q:Nat)(w:World)(e:Ending)(w':World):Prop:=e=.returned (.tuple #[.string (bsOf t),.int .i64 (q:Int)])/\Below w.heap.size w w'
theorem Tv(A:Option Addr)(n cap:Nat)(l:List Nd)(hc:n<=cap)(hn:n<=1048576)(AN:Option Addr)(nn cn:Nat)(L:List (List UInt8))(hL:∀ s∈L,s.length<=64)(M:Nat):∀(p:Nat) (x:Nd) (k r:F) (t:List Nd) (w:World),k.sz < M->RdN w w.heap.size A n l->(F.cons x k r).ok->l.drop p=(F.cons x k r).flat++t->
  RdB sc w w.heap.size AN nn L->(∀ y∈l,y.k=1->y.p < nn)->Hr w->
  Calls Tryz.prog 64 #[.slice A n cap,.int .i64 p,.slice AN nn cn] w (Qbg (txN (nmP L) x (txX (nmP L) k false)) (p+1+k.sz) w):=by
 induction M with
 | zero=>intro p x k r t w h;omega
 | succ M ih =>
  intro p x k r t w hM h bC hl hN dI dE;obtain⟨hk,bN,hd,hx⟩:=Lk bC hl;have bJ:=h.len;rw[bJ] at bN;have hm:k.cnt<=n:=by have:=F.cnt_le_sz k;omega
  have cA:=hid fun j hj=>pos_dr bC.2.2.1 hd (by omega) j hj;have bL:=hid bC.2.2.1;have dM:k.cnt=kn x:=bC.2.1;have dC:=hid bC.1;have dX:=hid (An hx);have aK:∀ y∈k.flat,Ef y.n:=fun y hy=>(h.bd y (List.mem_of_mem_drop (i:=p+1) (by rw[hd];exact List.mem_append_left _ hy))).2.2;have cV:=hid (I8 (Ip hL) k aK false);have eB:=hid (show k.sz<=1048576 by omega);have eU:=hid bN;obtain⟨ad,x0,rfl,fC,cF,cE,k0,k1,k2⟩:=h.at_ (i:=p) (by omega);obtain rfl:x0=x:=by rw[hx] at cF;injection cF with h;exact h.symm
  have eP:=hid cE;have eZ:p < n:=by omega
  have eD:=hid ih;have HH:=hid h;have cZ:=hid hN;have cX:=hid dI;have eR:=hid dE;have HD:=hid hd;have dZ:=hid hM;have cD:=hid dM;obtain⟨xk,xp,xn⟩:=x0;dsimp only at k0 k1 k2 eP dC dX;have dP:=bl1 w (.cells #[.int .i64 xk,.int .i64 xp,.int .i64 xn] 54);have hf:∀ o v,(#[Value.int .i64 xk,.int .i64 xp,.int .i64 xn]:Array Value)[o]? = some v->(w.alloc (.cells #[.int .i64 xk,.int .i64 xp,.int .i64 xn] 54)).cell? ⟨w.heap.size,o,none⟩=some v:=fun o v hv=>(Ab _ _ _ _ _).trans hv;have dN:w.heap.size < (w.alloc (.cells #[.int .i64 xk,.int .i64 xp,.int .i64 xn] 54)).heap.size:=by simp
  obtain⟨TX,cQ⟩:∃ T,T=txX (nmP L) k false:=⟨_,rfl⟩;obtain⟨aM,aU⟩:∃ T,T=txN (nmP L) ⟨xk,xp,xn⟩ TX:=⟨_,rfl⟩;rw[<- cQ] at cV |-;rw[<- aU];have dY:=hid cQ;have bS:=hid aU;obtain⟨p1,cG⟩:∃ p1,p1=p+1:=⟨_,rfl⟩;have e1:(p:Int)+1=(p1:Int):=by omega
  have e2:IntKind.i64.wrap (p1:Int)=(p1:Int):=by rw[Cm];omega
  have fE:=hid cG;rw[<- cG] at hd HD cA |-;have bM:=dC.o;have dU:=fine_one bM;dsimp only at dU;obtain⟨N,eN⟩:∃ N:Nat,xn=(N:Int):=⟨xn.toNat,by omega⟩;have cR:N<=9223372036854775807:=by have:=cE.2.2.2;dsimp only at this;omega
  have cI:=num_len_le 19 N (by omega);clear hk hl hd hx bJ bC ih h hN dI aK cE cF cQ aU dE cG hM dM;subst eN;have aJ:=bS.o;unfold txN at aJ;dsimp only at aJ;have aN:=hid aJ;unfold fine at bM;simp only[Au,Av] at bM;have aB:=bM.2;clear aJ bM bS dC dU;have aE:=hid dP;have aZ:Hd (∀ V,Below w.heap.size w V->Hr V):=hid fun V hv=>eR.o.on hv
  try dsimp only at aB
  go_in;go_upto_region 3 with fail;have bP:∀ V,Below (w.alloc (.cells #[.int .i64 xk,.int .i64 xp,.int .i64 (N:Int)] 54)).heap.size (w.alloc (.cells #[.int .i64 xk,.int .i64 xp,.int .i64 (N:Int)] 54)) V->∀ o v,(#[Value.int .i64 xk,.int .i64 xp,.int .i64 (N:Int)]:Array Value)[o]? = some v->V.cell? ⟨w.heap.size,o,none⟩=some v:=fun V hv o v hq=>(hv.cell (p:=⟨w.heap.size,o,none⟩) dN).trans (hf o v hq);have bA:=hid bP;generalize w.alloc (.cells #[.int .i64 xk,.int .i64 xp,.int .i64 (N:Int)] 54)=w0 at bA aE |-;have f0:=bA.o w0 (Aj _ _) 0 _ rfl;have f1:=bA.o w0 (Aj _ _) 1 _ rfl;have f2:=bA.o w0 (Aj _ _) 2 _ rfl;have dF:∀ {f:F},f.cnt=0->f.sz=0:=fun h=>by rw[F.cnt_zero h];rfl
  clear bP dP hf dN k0 k1 k2;have cC:Hd (∀ V,Below w0.heap.size w0 V->Calls Tryz.prog 58 #[.int .i64 (N:Int)] V (fun e w'=>e=.returned (.string (bsOf (numB N)))/\Below w0.heap.size w0 w')):=hid fun V hv=>(Ht N cR V (aZ.o V (aE.o.trans (hv.mono aE.o.size)))).mono fun e w' ⟨h1,h2⟩=>⟨h1,hv.trans (h2.mono hv.size)⟩;split at aB
  ·rename_i bQ;subst bQ;have eI:=Dk aB;have bH:=cX.o _ dX.o rfl;dsimp only at bH;obtain⟨pn,eJ⟩:∃ q:Nat,xp=(q:Int):=⟨xp.toNat,by omega⟩;subst eJ;obtain⟨dW,nx,rfl,cM,bE,c0,ck⟩:=(cZ.o.on aE.o).at_ Fl (by omega) (show pn < nn by omega);have c0:=c0 _ rfl;rw[Cj] at c0;have dJ:nmP L (pn:Int)=nx:=Iq (by omega) bE;have bI:nx.length<=64:=hL _ (An bE);have aY:Hd (aM=119::(nx++58::numB N)):=hid (by have h:=aN.o;rw[if_pos rfl,dJ] at h;exact h);obtain⟨u1,aA⟩:∃ t,t=[119]++nx:=⟨_,rfl⟩;have aI:u1.length<=104857800*2:=by rw[aA,Aa];have q1:([119]:List UInt8).length<=2:=(by decide);have q2:(nx:List UInt8).length<=64:=bI;omega
   have aF:∀ W,(Op.stringOp .add ⟨#[119]⟩ (bsOf nx)).run Tryz.prog W=.ok (.string (bsOf u1)) W:=by
    rw[aA];exact sadd ([119]) (nx) (by rw[<- Aa,<- aA];omega)
   obtain⟨u2,aC⟩:∃ t,t=u1++[58]:=⟨_,rfl⟩;have aP:u2.length<=104857800*3:=by rw[aC,Aa];have q1:(u1:List UInt8).length<=104857800*2:=aI;have q2:([58]:List UInt8).length<=2:=(by decide);omega
   have aH:∀ W,(Op.stringOp .add (bsOf u1) ⟨#[58]⟩).run Tryz.prog W=.ok (.string (bsOf u2)) W:=by
    rw[aC];exact sadd (u1) ([58]) (by rw[<- Aa,<- aC];omega)
   obtain⟨u3,aG⟩:∃ t,t=u2++numB N:=⟨_,rfl⟩;have bW:u3.length<=104857800*4:=by rw[aG,Aa];have q1:(u2:List UInt8).length<=104857800*3:=aP;have q2:(numB N:List UInt8).length<=20:=cI;omega
   have aT:∀ W,(Op.stringOp .add (bsOf u2) (bsOf (numB N))).run Tryz.prog W=.ok (.string (bsOf u3)) W:=by
    rw[aG];exact sadd (u2) (numB N) (by rw[<- Aa,<- aG];omega)
   have aV:=hid aA;have bR:=hid aC;have cU:=hid aG;have aX:Hd (aM=u3):=hid (by rw[aY.o,cU.o,bR.o,aV.o];simp);clear aA aI aC aP aG bW;have fA:pn < nn:=by omega
   have dB:Hd (p1+k.sz=p1):=hid (by rw[dF (show k.cnt=0 from cD.o)];rfl);have cO:(dW.add pn).block < w0.heap.size:=by rw[Eh];exact cM
   have eT:Hd (∀ V,Below w0.heap.size w0 V->Calls Tryz.prog 58 #[.int .i64 (N:Int)] V (fun e w'=>e=.returned (.string (bsOf (numB N)))/\Below w0.heap.size w0 w'/\w'.cell? ⟨w.heap.size,1,none⟩=some (.int .i64 (pn:Int))/\w'.cell? ⟨w.heap.size,2,none⟩=some (.int .i64 (N:Int))/\w'.cell? (dW.add pn)=some (.string (bsOf nx)))):=hid fun V hv=>(cC.o V hv).mono fun e w' ⟨h1,h2⟩=>⟨h1,h2,bA.o w' h2 1 _ rfl,bA.o w' h2 2 _ rfl,(h2.cell cO).trans c0⟩;clear aB eI bH bE ck dJ aN cC bI;go_wp2_with fail;go_region_with (go_at_call 58;refine(eT.o _ (by first | exact Aj _ _ | exact(Aj _ _).drew | exact Below.drewN (Aj _ _) _)).mono ?_;rintro e w6⟨rfl,dQ,v0,v1,v2⟩)
   all_goals
    have eX:=hid dQ;clear dQ v0 v1 v2 f0 f1 f2 c0;go_wp2;go_ret2;rw[aX.o,dB.o];exact⟨rfl,aE.o.trans (eX.o.mono aE.o.size)⟩
  rename_i bQ;have q1:(xk == 1)=false:=Ak.2 bQ;split at aB
  ·rename_i aL;rcases aL with aL | aL
   ·subst aL;have aY:Hd (aM=105::numB N):=hid (by have h:=aN.o;rw[if_neg (by decide),if_pos rfl] at h;exact h);obtain⟨u1,aA⟩:∃ t,t=[105]++numB N:=⟨_,rfl⟩;have aI:u1.length<=104857800*2:=by rw[aA,Aa];have q1:([105]:List UInt8).length<=2:=(by decide);have q2:(numB N:List UInt8).length<=20:=cI;omega
    have aF:∀ W,(Op.stringOp .add ⟨#[105]⟩ (bsOf (numB N))).run Tryz.prog W=.ok (.string (bsOf u1)) W:=by
     rw[aA];exact sadd ([105]) (numB N) (by rw[<- Aa,<- aA];omega)
    have aV:=hid aA;have aX:Hd (aM=u1):=hid (by rw[aY.o,aV.o];simp);clear aA aI;have dB:Hd (p1+k.sz=p1):=hid (by rw[dF (show k.cnt=0 from cD.o)];rfl);clear aB aN bQ q1;go_wp2_with fail;refine(cC.o _ (Aj _ _)).mono ?_;rintro e w7⟨rfl,aR⟩;go_wp2;go_ret2;rw[aX.o,dB.o];exact⟨rfl,aE.o.trans (aR.mono aE.o.size)⟩
   subst aL;have aY:Hd (aM=114::(numB N++40::(TX++[41]))):=hid (by have h:=aN.o;rw[if_neg (by decide),if_neg (by decide),if_neg (by decide)] at h;exact h);have bZ:k.cnt=1:=cD.o;obtain⟨y,ky,r',ed⟩:∃ y ky r',k=.cons y ky r':=by
    cases k with
    | nil=>cases bZ
    | cons y ky r'=>exact⟨y,ky,r',rfl⟩
   have dG:r'=.nil:=F.cnt_zero (by rw[ed] at bZ;simp only[F.cnt] at bZ;omega);rw[dG] at ed;have bB:TX.length<=104857600:=by have:=cV.o;have:=eB.o;omega
   have dS:TX=txN (nmP L) y (txX (nmP L) ky false):=by rw[dY.o,ed];simp[txX]
   have bK:ky.sz < M:=by have:=dZ.o;rw[ed] at this;simp only[F.sz] at this;omega
   have dL:p1+1+ky.sz=p1+k.sz:=by rw[ed];simp only[F.sz];omega
   have aO:=hid (eD.o p1 y ky .nil _ w0 bK (HH.o.on aE.o) (by rw[<- ed];exact bL.o) (by rw[HD.o,ed]) (cZ.o.on aE.o) cX.o (aZ.o _ aE.o));rw[<- dS,dL] at aO;clear dS bK dL ed dG bZ;obtain⟨u1,aA⟩:∃ t,t=[114]++numB N:=⟨_,rfl⟩;have aI:u1.length<=104857800*2:=by rw[aA,Aa];have q1:([114]:List UInt8).length<=2:=(by decide);have q2:(numB N:List UInt8).length<=20:=cI;omega
   have aF:∀ W,(Op.stringOp .add ⟨#[114]⟩ (bsOf (numB N))).run Tryz.prog W=.ok (.string (bsOf u1)) W:=by
    rw[aA];exact sadd ([114]) (numB N) (by rw[<- Aa,<- aA];omega)
   obtain⟨u2,aC⟩:∃ t,t=u1++[40]:=⟨_,rfl⟩;have aP:u2.length<=104857800*3:=by rw[aC,Aa];have q1:(u1:List UInt8).length<=104857800*2:=aI;have q2:([40]:List UInt8).length<=2:=(by decide);omega
   have aH:∀ W,(Op.stringOp .add (bsOf u1) ⟨#[40]⟩).run Tryz.prog W=.ok (.string (bsOf u2)) W:=by
    rw[aC];exact sadd (u1) ([40]) (by rw[<- Aa,<- aC];omega)
   obtain⟨u3,aG⟩:∃ t,t=u2++TX:=⟨_,rfl⟩;have bW:u3.length<=104857800*4:=by rw[aG,Aa];have q1:(u2:List UInt8).length<=104857800*3:=aP;have q2:(TX:List UInt8).length<=104857600:=bB;omega
   have aT:∀ W,(Op.stringOp .add (bsOf u2) (bsOf TX)).run Tryz.prog W=.ok (.string (bsOf u3)) W:=by
    rw[aG];exact sadd (u2) (TX) (by rw[<- Aa,<- aG];omega)
   obtain⟨u4,bF⟩:∃ t,t=u3++[41]:=⟨_,rfl⟩;have eE:u4.length<=104857800*5:=by rw[bF,Aa];have q1:(u3:List UInt8).length<=104857800*4:=bW;have q2:([41]:List UInt8).length<=2:=(by decide);omega
   have cP:∀ W,(Op.stringOp .add (bsOf u3) ⟨#[41]⟩).run Tryz.prog W=.ok (.string (bsOf u4)) W:=by
    rw[bF];exact sadd (u3) ([41]) (by rw[<- Aa,<- bF];omega)
   have aV:=hid aA;have bR:=hid aC;have cU:=hid aG;have eQ:=hid bF;have aX:Hd (aM=u4):=hid (by rw[aY.o,eQ.o,cU.o,bR.o,aV.o];simp);clear aA aI aC aP aG bW bF eE;clear aB aN bQ q1 bB;go_wp2_with fail;refine aO.o.mono ?_;rintro e w7⟨rfl,aR⟩;have g2:=bA.o w7 aR 2 _ rfl;have eW:=hid aR;clear aR f0 f1 f2;go_wp2_with fail;refine(cC.o _ eW.o).mono ?_;rintro e w8⟨rfl,eM⟩;go_wp2;go_ret2;rw[aX.o];exact⟨rfl,aE.o.trans (eM.mono aE.o.size)⟩
  rename_i aL;have q2:(xk == 2)=false:=Ak.2 fun e=>aL (.inl e);have q4:(xk == 4)=false:=Ak.2 fun e=>aL (.inr e);split at aB
  ·rename_i eO;subst eO;have hN:=(Dk aB).2;have cK:k.cnt=N:=by rw[cD.o];show (if (3:Int)=3 then ((N:Int)).toNat else _)=N;rw[if_pos rfl];omega
   have aY:Hd (aM=115::40::(TX++[41])):=hid (by have h:=aN.o;rw[if_neg (by decide),if_neg (by decide),if_pos rfl] at h;exact h);have bB:TX.length<=104857600:=by have:=cV.o;have:=eB.o;omega
   have bV:=hid bB;have fB:=Ih N (by omega) w0;have dO:=bl1 w0 (.cells (madeCells #[.string ⟨#[]⟩] N) 9);have cH:=D7 w0 9 1 w0.heap.size (madeCells #[.string ⟨#[]⟩] N) N (by simp[size_madeCells]) (Ag _) (by unfold maxLen;omega);rw[Jz] at cH;have dD:=hid dO;have cY:=hid cH;have bU:=hid cK;have dA:=hid (Qe (nmP L) k);have eC:Hd ((Pf (nmP L) k).length=N):=hid (by rw[S7];exact cK);have eV:=hid (Wu (nmP L) k);have dT:N<=128:=by omega
   rw[<- dY.o] at dA;clear aB aN dO cH hN cK;go_wp2_with fail;generalize eF:w0.alloc (.cells (madeCells #[.string ⟨#[]⟩] N) 9)=wm at dD cY |-;go_loopw [1,12,65] (fun a _ s wr=>∃ i:Nat,i<=N/\a=.int .i64 (pos l p1 i:Nat)/\s=.int .i64 i/\OwnV 9 1 wr w0.heap.size (some ⟨w0.heap.size,0,none⟩) N N (Ga (Pf (nmP L) k) N i)/\Below w0.heap.size w0 wr) (fun _ _ s _=>N - (intOf s).toNat)
   case atStart=>exact⟨0,by omega,rfl,rfl,by rw[M6];exact cY.o,dD.o⟩
   obtain⟨i,hi,rfl,rfl,ho,hb⟩:=hrel;have HO:=hid ho;have HB:=hid hb;clear ho hb cY dD eF;by_cases eK:i < N
   ·have cJ:(i:Int) < (N:Int):=by omega
    obtain⟨hd,aD,bY,bX⟩:=cA.o i (by have:=bU.o;omega);obtain⟨eL,bG,eH,eG⟩:=cA.o (i+1) (by have:=bU.o;omega);obtain⟨y,ky,r',ed⟩:=dr_cons (f:=k) (j:=i) (by have:=bU.o;omega);have aQ:=dr_ok bL.o i;have dV:=dr_succ ed;have dK:=eV.o i y ky r' ed;rw[ed] at hd aD aQ;rw[dV] at bG;simp only[F.sz] at aD;have bK:ky.sz < M:=by have:=dZ.o;omega
    have bE:pos l p1 i+1+ky.sz=pos l p1 (i+1):=by omega
    have k1:=aE.o.trans (HB.o.mono aE.o.size);have aO:=hid (eD.o (pos l p1 i) y ky r' _ wr bK (HH.o.on k1) aQ hd (cZ.o.on k1) cX.o (aZ.o _ k1));rw[bE] at aO;have bT:=hid dK;generalize txN (nmP L) y (txX (nmP L) ky false)=CT at aO bT;have dH:pos l p1 (i+1)<=1048576:=by have:=HH.o.len;omega
    generalize pos l p1 i=P at aO hd aD bY bX |-;have fD:=hid dH;clear hd aD bY bX eL bG eH eG ed dV aQ bK bE k1 dK dH;go_wp2_with fail;refine aO.o.mono ?_;rintro e w4⟨rfl,cL⟩;have bD:=OwnV.below HO.o rfl cL;have dR:=HB.o.trans (cL.mono HB.o.size);obtain⟨z0,c1⟩:∃ v,w4.cell? ⟨w0.heap.size,i,none⟩=some v:=⟨_,(Ah bD i (by omega)).trans (Am (by rw[bD.1];omega))⟩;have c2:=Aq bD i;have eS:Hd (OwnV 9 1 (w4.setCell ⟨w0.heap.size,i,none⟩ (.string (bsOf CT))) w0.heap.size (some ⟨w0.heap.size,0,none⟩) N N (Ga (Pf (nmP L) k) N (i+1))):=hid (by rw[<- Jt eK bT.o];exact OwnV.set bD i _ (by rw[bD.1];omega));have eY:Hd (Below w0.heap.size w0 (w4.setCell ⟨w0.heap.size,i,none⟩ (.string (bsOf CT)))):=hid (dR.setCell (p:=⟨w0.heap.size,i,none⟩) (Ag _) _);clear bD dR cL aO;go_wp2;go_roundw
    case rel=>exact⟨i+1,by omega,rfl,by go_num,eS.o,eY.o⟩
    simp[intOf];omega
   have cJ:¬ (i:Int) < (N:Int):=by omega
   obtain rfl:i=N:=by omega
   have bO:=Ju eC.o;have ho:=HO.o;rw[bO] at ho;obtain⟨hd,aD,bY,bX⟩:=cA.o i (by have:=bU.o;omega);have e5:F.dr i k=.nil:=by rw[show i=k.cnt from bU.o.symm];exact dr_all k
   rw[e5] at aD;have HQ:Hd (pos l p1 i=p1+k.sz):=hid (by simpa [F.sz] using aD);have HJ:=hid (Lx 44 ho eC.o (by omega) (by rw[<- dA.o];have:=bV.o;omega));rw[<- dA.o] at HJ;have bB:=bV.o;clear bO ho hd aD bY bX e5 HO;obtain⟨u1,aA⟩:∃ t,t=[115,40]++TX:=⟨_,rfl⟩;have aI:u1.length<=104857800*2:=by rw[aA,Aa];have q1:([115,40]:List UInt8).length<=2:=(by decide);have q2:(TX:List UInt8).length<=104857600:=bB;omega
   have aF:∀ W,(Op.stringOp .add ⟨#[115,40]⟩ (bsOf TX)).run Tryz.prog W=.ok (.string (bsOf u1)) W:=by
    rw[aA];exact sadd ([115,40]) (TX) (by rw[<- Aa,<- aA];omega)
   obtain⟨u2,aC⟩:∃ t,t=u1++[41]:=⟨_,rfl⟩;have aP:u2.length<=104857800*3:=by rw[aC,Aa];have q1:(u1:List UInt8).length<=104857800*2:=aI;have q2:([41]:List UInt8).length<=2:=(by decide);omega
   have aH:∀ W,(Op.stringOp .add (bsOf u1) ⟨#[41]⟩).run Tryz.prog W=.ok (.string (bsOf u2)) W:=by
    rw[aC];exact sadd (u1) ([41]) (by rw[<- Aa,<- aC];omega)
   have aV:=hid aA;have bR:=hid aC;have aX:Hd (aM=u2):=hid (by rw[aY.o,bR.o,aV.o];simp);clear aA aI aC aP;go_wp2_with fail;refine HJ.o.mono ?_;rintro e w7⟨rfl,aR⟩;go_wp2;go_ret2;rw[aX.o,<- HQ.o];exact⟨rfl,aE.o.trans ((HB.o.trans (aR.mono HB.o.size)).mono aE.o.size)⟩
  cases aB
