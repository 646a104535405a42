import Derived.Test.YtfmndmhjjbeokaaGreatDoorLow19
import Derived.Laws.MakeOwn
import Derived.Laws.OwnMore
import Derived.BigQuiet
import Derived.Laws.StructEq
set_option maxHeartbeats 4000000
set_option maxRecDepth 100000
set_option linter.unusedSimpArgs false
set_option linter.unusedVariables false
namespace Go.Proofs.YtfmndmhjjbeokaaGreatDoor
namespace Tab
abbrev Itr:=List (List Nd)
def szI:Itr->Nat
 | []=>0
 | x::I=>x.length+szI I
def savI(I:Itr)(n:Nat):Int:=if n < 2 then 0 else ((szI I*(n - 1):Nat):Int) - 1 - (if 1 < I.length then 1 else 0)
structure Bst where
 most:Int
 at_:Nat
 p:Nat
 n:Nat
structure Good(I:Itr)(s:Bst):Prop where
 n:2<=s.n
 p:1<=s.p
 le:s.at_+s.p*s.n<=I.length
 same:∀ i,s.at_<=i->i+s.p < s.at_+s.p*s.n->I[i]? = I[i+s.p]?
 most:s.most=savI ((I.drop s.at_).take s.p) s.n
 pos:0 < s.most
def parts:F->Itr
 | .nil=>[]
 | .cons x k r=>(x::k.flat)::parts r
theorem flat_inj(f:F):∀(g:F) (s t:List Nd),f.ok->g.ok->f.cnt=g.cnt->f.flat++s=g.flat++t->f=g/\s=t:=by
 induction f with
 | nil =>
  intro g s t _ _ hc h;have:g=.nil:=F.cnt_zero hc.symm;subst this;exact⟨rfl,by simpa [F.flat] using h⟩
 | cons x k r hk hr =>
  intro g s t h1 h2 hc h;cases g with
  | nil=>simp[F.cnt] at hc
  | cons y k' r' =>
   simp only[F.flat,Bo,Ar,List.cons.injEq] at h;obtain⟨rfl,h3⟩:=h;obtain⟨rfl,h4⟩:=hk k' _ _ h1.2.2.1 h2.2.2.1 (by rw[h1.2.1,h2.2.1]) h3;obtain⟨rfl,h5⟩:=hr r' _ _ h1.2.2.2 h2.2.2.2 (by simp only[F.cnt] at hc;omega) h4;exact⟨rfl,h5⟩
end Tab
namespace Tab
def pre(I:Itr)(k:Nat):Nat:=szI (I.take k)
end Tab
end Go.Proofs.YtfmndmhjjbeokaaGreatDoor
namespace Go.Proofs.YtfmndmhjjbeokaaGreatDoor
open Go.RowKit Tab
theorem Km(A1 A2:Option Addr)(n m c1 c2:Nat)(l1 l2:List Nd)(w:World)(h1:RdN w w.heap.size A1 n l1)(h2:RdN w w.heap.size A2 m l2)(hn:n<=140737488351232):
  Calls Tryz.prog 21 #[.slice A1 n c1,.slice A2 m c2] w (Qui (.bool (sameN l1 l2)) w):=by
 by_cases aE:n=m
 ·subst aE;generalize hb:sameN l1 l2=b;have HB:=hid hb;clear hb;go_in;go_wp2;go_loopw [5,13] (fun _ s wr=>∃ i q:Nat,i<=n/\s=.int .i64 i/\sameN (l1.drop i) (l2.drop i)=b/\wr=w.drewN q) (fun _ s _=>n - (intOf s).toNat)
  case atStart=>exact⟨0,0,by omega,rfl,by simpa using HB.o,rfl⟩
  obtain⟨i,q,hi,rfl,hs,rfl⟩:=hrel;have HS:=hid hs;clear hs;by_cases aF:i < n
  ·obtain⟨ad,x,rfl,_,hx,aH,c0,aJ,aI⟩:=h1.at_ aF;obtain⟨aK,y,rfl,_,hy,aD,d0,d1,d2⟩:=h2.at_ aF;have e1:=drop_cons hx;have e2:=drop_cons hy;have aA:=HS.o;rw[e1,e2] at aA;simp only[sameN] at aA;have aC:=hid aA;have aB:=fun W=>im x y W;obtain⟨xk,xp,xn⟩:=x;obtain⟨yk,yp,yn⟩:=y;dsimp only at c0 aJ aI d0 d1 d2 aB;clear hx hy aH aD e1 e2 aA HS;generalize hE:ndEq ⟨xk,xp,xn⟩ ⟨yk,yp,yn⟩=E at aC aB;clear hE;cases E with
   | true =>
    have aB:∀ W,(binOp .neq 54 (nd xk xp xn) (nd yk yp yn)).run Tryz.prog W=.ok (.bool false) W:=aB;go_wp2_with fail;go_quiet (fail);go_wp2;go_roundw
    case rel=>exact⟨i+1,q+nq,by omega,by go_num,by simpa using aC.o,rfl⟩
    simp[intOf];omega
   | false =>
    have aB:∀ W,(binOp .neq 54 (nd xk xp xn) (nd yk yp yn)).run Tryz.prog W=.ok (.bool true) W:=aB;go_wp2_with fail;go_quiet (fail);go_wp2;go_ret;exact⟨by have:=aC.o;simp at this;rw[<- this];rfl,q+nq,by rw[World.drewN_drewN]⟩
  have aG:n<=i:=by omega
  have e1:l1.drop i=[]:=Cq (by rw[h1.len];exact aG);have e2:l2.drop i=[]:=Cq (by rw[h2.len];exact aG);have aA:=HS.o;rw[e1,e2] at aA;have aC:=hid aA;clear aA HS e1 e2;go_wp2;go_ret;exact⟨by rw[<- aC.o];rfl,q,rfl⟩
 have hb:=sameN_len (a:=l1) (b:=l2) (by rw[h1.len,h2.len];exact aE);rw[hb];have h3:((n:Int) == (m:Int))=false:=Ak.2 (by omega);have h4:((n:Int) != (m:Int))=true:=by rw[bne,h3];rfl
 clear hb h1 h2;go_in;go_wp2;go_ret;exact⟨rfl,0,rfl⟩
def dc(a0 a1 a2 a3 a4 b0 b1 b2 b3 b4:Int):Bool:=decide (a0=b0/\a1=b1/\a2=b2/\a3=b3/\a4=b4)
theorem jx(a0 a1 a2 a3 a4 b0 b1 b2 b3 b4:Int)(W:World):(Op.equalIn 10000 58 (.agg #[.int .i64 a0,.int .i64 a1,.int .i64 a2,.int .i64 a3,.int .i64 a4]) (.agg #[.int .i64 b0,.int .i64 b1,.int .i64 b2,.int .i64 b3,.int .i64 b4])).run Tryz.prog W =
  .ok (dc a0 a1 a2 a3 a4 b0 b1 b2 b3 b4) W:=by
 have u3:=Tryz.underlying3;have aA:=Tryz.isAgg3;have z3:=Tryz.sizeOf3;rw[show (10000:Nat)=9999+1 from rfl,Op.equalIn];simp only[Sem.run_bind,run_underlying Tryz.underlying58,At];simp only[Std.Legacy.Range.forIn_eq_forIn_range',Std.Legacy.Range.size,Nat.sub_zero,Nat.add_sub_cancel,Nat.div_one,List.range'_succ,List.range'_zero,List.forIn_cons,List.forIn_nil];unfold dc;go_simp;by_cases h0:a0=b0
 ·by_cases h1:a1=b1
  ·by_cases h2:a2=b2
   ·by_cases h3:a3=b3
    ·by_cases h4:a4=b4 <;> simp[h0,h1,h2,h3,h4]
    simp[h0,h1,h2,h3]
   simp[h0,h1,h2]
  simp[h0,h1]
 simp[h0]
theorem er(a0 a1 a2 a3 a4 b0 b1 b2 b3 b4:Int)(W:World):(binOp .neq 58 (.agg #[.int .i64 a0,.int .i64 a1,.int .i64 a2,.int .i64 a3,.int .i64 a4]) (.agg #[.int .i64 b0,.int .i64 b1,.int .i64 b2,.int .i64 b3,.int .i64 b4])).run Tryz.prog W =
  .ok (.bool (!(dc a0 a1 a2 a3 a4 b0 b1 b2 b3 b4))) W:=by
 rw[C6,jx];rfl
theorem g9(a b c d:Int)(W:World):(binOp .neq 62 (.agg #[.int .i64 a,.int .i64 b]) (.agg #[.int .i64 c,.int .i64 d])).run Tryz.prog W=.ok (.bool (!(decide ((a,b)=(c,d))))) W:=by
 by_cases h1:a=c
 ·by_cases h2:b=d
  ·subst h1;subst h2;simp[C6,go_sem]
  subst h1;simp[C6,go_sem,h2]
 simp[C6,go_sem,h1]
def Eo(x y:Pq):Prop:=x.1.name=y.1.name/\x.1.bud=y.1.bud/\x.1.per=y.1.per/\x.1.sched=y.1.sched/\x.1.stop=y.1.stop/\(x.1.h0=y.1.h0/\x.1.h1=y.1.h1/\x.1.h2=y.1.h2/\x.1.h3=y.1.h3/\x.1.h4=y.1.h4)/\x.2=y.2
instance (x y:Pq):Decidable (Eo x y):=by unfold Eo;infer_instance
theorem Uk(x y:Pq)(w:World)(hx:RdB prc w w.heap.size x.1.pa x.1.pn x.2)(hy:RdB prc w w.heap.size y.1.pa y.1.pn y.2)(hn:x.1.pn<=140737488351232):
  Calls Tryz.prog 84 #[pv x.1,pv y.1] w (Ans (.bool (decide (Eo x y))) w):=by
 have aB:Hd (¬ Eo x y->decide (Eo x y)=false):=hid fun h=>Ac h;have aA:Hd (Eo x y->decide (Eo x y)=true):=hid fun h=>Ae h;generalize decide (Eo x y)=v at aB aA |-;obtain⟨⟨nm,bu,pe,sc,st,pa,pn,pc,a0,a1,a2,a3,a4⟩,L⟩:=x;obtain⟨⟨aQ,aT,aP,aN,st2,aG,aO,aF,b0,b1,b2,b3,b4⟩,M⟩:=y;unfold Eo at aB aA;dsimp only at hx hy aB aA hn |-;have g0:=bl1 w (.cells #[.string nm,.int .i64 bu,.int .i64 pe,.bool sc,.bool st,.slice pa pn pc,.int .i64 a0,.int .i64 a1,.int .i64 a2,.int .i64 a3,.int .i64 a4] 60);have g1:=g0.trans ((bl1 _ (.cells #[.string aQ,.int .i64 aT,.int .i64 aP,.bool aN,.bool st2,.slice aG aO aF,.int .i64 b0,.int .i64 b1,.int .i64 b2,.int .i64 b3,.int .i64 b4] 60)).mono g0.size);have HB:=hid g1;have HX:=hid hx;have HY:=hid hy;clear g0 g1 hx hy;go_in;by_cases k0:nm=aQ
 case neg =>
  have hq:(nm.toList == aQ.toList)=false:=Et (Ac k0);have HV:=hid (aB.o fun h=>k0 h.1);clear aB aA k0;go_wp2;go_ret;exact Ans.mk (by rw[HV.o];rfl) HB.o
 subst k0;by_cases k1:bu=aT
 case neg =>
  have bE:(bu != aT)=true:=Bz.2 k1;have HV:=hid (aB.o fun h=>k1 h.2.1);clear aB aA k1;go_wp2;go_ret;exact Ans.mk (by rw[HV.o];rfl) HB.o
 subst k1;by_cases k2:pe=aP
 case neg =>
  have bD:(pe != aP)=true:=Bz.2 k2;have HV:=hid (aB.o fun h=>k2 h.2.2.1);clear aB aA k2;go_wp2;go_ret;exact Ans.mk (by rw[HV.o];rfl) HB.o
 subst k2;by_cases k3:sc=aN
 case neg =>
  have HV:=hid (aB.o fun h=>k3 h.2.2.2.1);clear aB aA;cases sc <;> cases aN <;> (try (exact absurd rfl k3)) <;> go_wp2_with fail
  all_goals
   go_ret;exact Ans.mk (by rw[HV.o];rfl) HB.o
 subst k3;by_cases k4:st=st2
 case neg =>
  have HV:=hid (aB.o fun h=>k4 h.2.2.2.2.1);clear aB aA;cases st <;> cases st2 <;> (try (exact absurd rfl k4)) <;> cases sc <;> go_wp2_with fail
  all_goals
   go_ret;exact Ans.mk (by rw[HV.o];rfl) HB.o
 subst k4;have aE:=fun W=>er a0 a1 a2 a3 a4 b0 b1 b2 b3 b4 W;by_cases k5:a0=b0/\a1=b1/\a2=b2/\a3=b3/\a4=b4
 case neg =>
  rw[show dc a0 a1 a2 a3 a4 b0 b1 b2 b3 b4=false from Ac k5] at aE;have aE:∀ W,(binOp .neq 58 (.agg #[.int .i64 a0,.int .i64 a1,.int .i64 a2,.int .i64 a3,.int .i64 a4]) (.agg #[.int .i64 b0,.int .i64 b1,.int .i64 b2,.int .i64 b3,.int .i64 b4])).run Tryz.prog W=.ok (.bool true) W:=aE;have HV:=hid (aB.o fun h=>k5 h.2.2.2.2.2.1);clear aB aA k5;go_wp2;go_ret;exact Ans.mk (by rw[HV.o];rfl) HB.o
 rw[show dc a0 a1 a2 a3 a4 b0 b1 b2 b3 b4=true from Ae k5] at aE;have aE:∀ W,(binOp .neq 58 (.agg #[.int .i64 a0,.int .i64 a1,.int .i64 a2,.int .i64 a3,.int .i64 a4]) (.agg #[.int .i64 b0,.int .i64 b1,.int .i64 b2,.int .i64 b3,.int .i64 b4])).run Tryz.prog W=.ok (.bool false) W:=aE;have aC:=hid fun h=>aA.o ⟨rfl,rfl,rfl,rfl,rfl,k5,h⟩;have aD:Hd (¬ L=M->v=false):=hid fun h=>aB.o fun k=>h k.2.2.2.2.2.2;clear k5 aB aA;by_cases k6:pn=aO
 case neg =>
  have bC:((pn:Int) != (aO:Int))=true:=Bz.2 (by omega);have HV:=hid (aD.o fun h=>k6 (by rw[<- HX.o.len,<- HY.o.len,h]));clear aD aC;go_wp2;go_ret;exact Ans.mk (by rw[HV.o];rfl) HB.o
 subst k6;go_wp2_with fail;clear aE;have n5:((w.alloc (.cells #[.string nm,.int .i64 bu,.int .i64 pe,.bool sc,.bool st,.slice pa pn pc,.int .i64 a0,.int .i64 a1,.int .i64 a2,.int .i64 a3,.int .i64 a4] 60)).alloc (.cells #[.string nm,.int .i64 bu,.int .i64 pe,.bool sc,.bool st,.slice aG pn aF,.int .i64 b0,.int .i64 b1,.int .i64 b2,.int .i64 b3,.int .i64 b4] 60)).cell? ⟨w.heap.size,5,none⟩=some (.slice pa pn pc):=by
  rw[(bl1 _ _).cell (by simp)];exact Ab _ _ _ _ _
 have aJ:((w.alloc (.cells #[.string nm,.int .i64 bu,.int .i64 pe,.bool sc,.bool st,.slice pa pn pc,.int .i64 a0,.int .i64 a1,.int .i64 a2,.int .i64 a3,.int .i64 a4] 60)).alloc (.cells #[.string nm,.int .i64 bu,.int .i64 pe,.bool sc,.bool st,.slice aG pn aF,.int .i64 b0,.int .i64 b1,.int .i64 b2,.int .i64 b3,.int .i64 b4] 60)).cell? ⟨w.heap.size+1,5,none⟩=some (.slice aG pn aF):=by
  have e:(w.alloc (.cells #[.string nm,.int .i64 bu,.int .i64 pe,.bool sc,.bool st,.slice pa pn pc,.int .i64 a0,.int .i64 a1,.int .i64 a2,.int .i64 a3,.int .i64 a4] 60)).heap.size=w.heap.size+1:=by simp
  rw[<- e];exact Ab _ _ _ _ _
 have aM:w.heap.size+1 < ((w.alloc (.cells #[.string nm,.int .i64 bu,.int .i64 pe,.bool sc,.bool st,.slice pa pn pc,.int .i64 a0,.int .i64 a1,.int .i64 a2,.int .i64 a3,.int .i64 a4] 60)).alloc (.cells #[.string nm,.int .i64 bu,.int .i64 pe,.bool sc,.bool st,.slice aG pn aF,.int .i64 b0,.int .i64 b1,.int .i64 b2,.int .i64 b3,.int .i64 b4] 60)).heap.size:=by simp
 generalize (w.alloc (.cells #[.string nm,.int .i64 bu,.int .i64 pe,.bool sc,.bool st,.slice pa pn pc,.int .i64 a0,.int .i64 a1,.int .i64 a2,.int .i64 a3,.int .i64 a4] 60)).alloc (.cells #[.string nm,.int .i64 bu,.int .i64 pe,.bool sc,.bool st,.slice aG pn aF,.int .i64 b0,.int .i64 b1,.int .i64 b2,.int .i64 b3,.int .i64 b4] 60)=W at HB n5 aJ aM |-;obtain⟨g,hg⟩:∃ g,g=w.heap.size:=⟨_,rfl⟩;rw[<- hg] at n5 aJ aM |-;have HG:=hid hg;have N5:=hid n5;have aZ:=hid aJ;clear hg n5 aJ;obtain⟨g2,aR⟩:∃ g2,g2=g+1:=⟨_,rfl⟩;rw[<- aR] at aZ aM |-;have bH:=hid aR;have bA:g < W.heap.size:=by omega
 clear aR;go_loopw [5,58] (fun _ s wr=>∃ i:Nat,i<=pn/\s=.int .i64 i/\(∀ k,k < i->L[k]? = M[k]?)/\Below W.heap.size W wr) (fun _ s _=>pn - (intOf s).toNat)
 case atStart=>exact⟨0,by omega,rfl,fun k hk=>by omega,Aj _ _⟩
 obtain⟨i,hi,rfl,aV,hb⟩:=hrel;have aL:=hid aV;clear aV;have n5:=(hb.cell (p:=⟨g,5,none⟩) bA).trans N5.o;have aJ:=(hb.cell (p:=⟨g2,5,none⟩) aM).trans aZ.o;have aI:=HB.o.trans (hb.mono HB.o.size);by_cases aX:i < pn
 ·obtain⟨ad,q,rfl,aY,hx,c0,ck⟩:=(HX.o.on aI).at_ F5 (by omega) aX;have c1:=ck 1 _ (by omega) rfl;have c0:=c0 _ rfl;obtain⟨bG,q2,rfl,aK,hy,d0,dk⟩:=(HY.o.on aI).at_ F5 (by omega) aX;have d1:=dk 1 _ (by omega) rfl;have d0:=d0 _ rfl;obtain⟨e,p⟩:=q;obtain⟨e2,p2⟩:=q2;dsimp only at c0 c1 d0 d1;have aH:=fun W=>g9 e p e2 p2 W;by_cases hE:(e,p)=(e2,p2)
  ·rw[Ae hE] at aH;have aH:∀ W,(binOp .neq 62 (.agg #[.int .i64 e,.int .i64 p]) (.agg #[.int .i64 e2,.int .i64 p2])).run Tryz.prog W=.ok (.bool false) W:=aH;have bB:Hd (∀ k,k < i+1->L[k]? = M[k]?):=hid (F7 (p:=fun k=>L[k]? = M[k]?) aL.o (by rw[hx,hy,hE]));have aU:=hid hb;clear hE hx hy ck dk aY aK aL hb aI;go_wp2_with fail;go_quiet (fail);go_wp2;go_roundw
   case rel=>exact⟨i+1,by omega,by go_num,bB.o,Below.drewN aU.o nq⟩
   simp[intOf];omega
  rw[Ac hE] at aH;have aH:∀ W,(binOp .neq 62 (.agg #[.int .i64 e,.int .i64 p]) (.agg #[.int .i64 e2,.int .i64 p2])).run Tryz.prog W=.ok (.bool true) W:=aH;have HV:=hid (aD.o fun h=>hE (by rw[h,hy] at hx;injection hx with hx;exact hx.symm));have aU:=hid aI;clear hE hx hy ck dk aY aK aL hb aI aD aC;go_wp2_with fail;go_quiet (fail);go_wp2;go_ret;exact Ans.mk (by rw[HV.o];rfl) (Below.drewN aU.o nq)
 have bF:pn<=i:=by omega
 have HV:=hid (aC.o (List.ext_getElem? fun k=>by
  rcases Bk k i with h5 | h5
  ·exact aL.o k h5
  rw[Bw (by rw[HX.o.len];omega),Bw (by rw[HY.o.len];omega)]))
 clear aL aD aC;go_wp2;go_ret;exact Ans.mk (by rw[HV.o];rfl) aI
