import Derived.Test.YtfmndmhjjbeokaaGreatDoorLow17
set_option maxHeartbeats 4000000
set_option maxRecDepth 100000
set_option linter.unusedSimpArgs false
set_option linter.unusedVariables false
namespace Go.Proofs.YtfmndmhjjbeokaaGreatDoor
open Go.RowKit Tab
def rnd(W:List Int)(t:Nat):Option Int:=W[t % W.length]?
theorem gi(W:List Int)(t k:Nat):rnd W (t+W.length*k)=rnd W t:=by
 unfold rnd;rw[Nat.add_mul_mod_self_left]
theorem aj{W:List Int}{t:Nat}(h:t < W.length):rnd W t=W[t]?:=by
 unfold rnd;rw[Nat.mod_eq_of_lt h]
def Dst(W:List Int)(q:Int)(t d:Nat):Prop:=1<=d/\rnd W (t+d)=some q/\∀ e,1<=e->e < d->¬ rnd W (t+e)=some q
theorem Dst.eq{W:List Int}{q:Int}{t d e:Nat}(h:Dst W q t d)(k:Dst W q t e):d=e:=by
 rcases Nat.lt_trichotomy d e with hl | hl | hl
 ·exact absurd h.2.1 (k.2.2 d h.1 hl)
 ·exact hl
 exact absurd k.2.1 (h.2.2 e k.1 hl)
theorem Za{W:List Int}{q:Int}{t:Nat}:∀ f d,1<=d->(∀ e,1<=e->e < d->¬ rnd W (t+e)=some q)->(∃ e,d<=e/\e < d+f/\rnd W (t+e)=some q)->Dst W q t (Kg W q t f d):=by
 intro f;induction f with
 | zero=>rintro d _ _⟨e,h1,h2,_⟩;omega
 | succ f ih =>
  intro d hd aA aB;by_cases hh:rnd W (t+d)=some q
  ·rw[Qm (by unfold rnd at hh;exact hh)];exact⟨hd,hh,aA⟩
  rw[Te (by unfold rnd at hh;exact hh)];refine ih (d+1) (by omega) (fun e h1 h2=>?_) ?_
  ·by_cases aC:e=d
   ·subst aC;exact hh
   exact aA e h1 (by omega)
  obtain⟨e,h1,h2,h3⟩:=aB;refine⟨e,?_,by omega,h3⟩;rcases Bk d e with h4 | h4
  ·omega
  have:e=d:=by omega
  subst this;exact absurd h3 hh
theorem Ok{W:List Int}{q:Int}(h:E6 q W=true)(t:Nat):Dst W q t (Ph W q t):=by
 obtain⟨e,h1,h2,h3⟩:=Ri h t;exact Za W.length 1 (Ag _) (fun e h1 h2=>by omega) ⟨e,h1,by omega,h3⟩
theorem jc{W:List Int}{q:Int}(h:E6 q W=true)(t:Nat):Ph W q t<=W.length:=by
 obtain⟨e,h1,h2,h3⟩:=Ri h t;have k:=Ok h t;rcases Bk e (Ph W q t) with hl | hl
 ·exact absurd h3 (k.2.2 e h1 hl)
 omega
theorem Oe{W:List Int}{p q:Int}{M:Nat}:∀ k,Gb W p q k<=M↔∀ t,t < k->W[t]? = some p->Ph W q t<=M:=by
 intro k;induction k with
 | zero=>exact⟨fun _ t h=>by omega,fun _=>Cr _⟩
 | succ k ih =>
  unfold Gb;by_cases hp:W[k]? = some p
  ·rw[if_pos hp];constructor
   ·intro h t ht aA;by_cases aB:t=k
    ·subst aB;omega
    exact(ih.1 (by omega)) t (by omega) aA
   intro h;have h1:=ih.2 fun t ht aA=>h t (by omega) aA;have h2:=h k (by omega) hp;omega
  rw[if_neg hp,ih];constructor
  ·intro h t ht aA;by_cases aB:t=k
   ·subst aB;exact absurd aA hp
   exact h t (by omega) aA
  exact fun h t ht aA=>h t (by omega) aA
theorem Lg{a b:Nat}(h:∀ M,a<=M↔b<=M):a=b:=Nat.le_antisymm ((h b).2 (Ag _)) ((h a).1 (Ag _))
structure Qca(V W:List Int)(a:Nat):Prop where
 pos:0 < W.length
 eq:∀ i,rnd V i=rnd W (i+a)
def Oj(W:List Int)(p:Int):Int:=if D9 W p p < 1 then -1 else D9 W p p - 1
theorem S5(W:List Int)(p q:Int):D9 W p q<=W.length:=by
 unfold D9;split
 ·omega
 split
 ·omega
 rename_i h;have hq:E6 q W=true:=by simpa using h
 have:=(Oe (W:=W) (p:=p) (q:=q) (M:=W.length) W.length).2 fun t _ _=>jc hq t;omega
theorem je{W:List Int}{p:Int}:0 < Gt p W↔E6 p W=true:=by
 induction W with
 | nil=>simp[Gt,E6]
 | cons x W ih =>
  simp only[Gt,E6,Dh,Av,<- ih];by_cases hx:x=p
  ·simp[hx];omega
  simp[hx]
theorem Rj(p x:Int)(n:Nat):Gt p (List.replicate n x)=if x=p then n else 0:=by
 induction n with
 | zero=>simp[Gt]
 | succ n ih =>
  simp only[Dp,Gt,ih];by_cases h:x=p
  ·simp[h];omega
  simp[h]
theorem Zc(p:Int)(L:List Rn):Gt p (Dx L)=tkOf p L:=by
 induction L with
 | nil=>rfl
 | cons r s ih=>simp only[Dx,Mv,Rj,tkOf,ih]
theorem jm(W:List Int)(p z:Int):-1<=Fr W p z:=by
 unfold Fr;split
 ·omega
 split
 ·omega
 split <;> omega
def Ew(W:List Int)(x:ChV):Bool:=decide (0 < x.late) && (decide (D9 W x.from_ x.to_ < 0) || decide (x.late < D9 W x.from_ x.to_))
def Fb(W:List Int)(i:Nat)(x:PtV):Bool:=decide (0 < x.bud) && decide (Fr W (i:Int) x.per < x.bud)
def Ev(W:List Int):Nat->List PtV->Bool
 | _,[]=>false
 | i,x::l=>Fb W i x || Ev W (i+1) l
def E4(W:List Int)(P:List PtV)(C:List ChV):Int:=if C.any (Ew W)=true then 19 else if Ev W 0 P=true then 20 else 0
theorem Ji{W:List Int}{P:List PtV}{C:List ChV}(h:C.any (Ew W)=true):E4 W P C=19:=if_pos h
theorem Ll{W:List Int}{P:List PtV}{C:List ChV}(h:C.any (Ew W)=false)(h2:Ev W 0 P=true):E4 W P C=20:=by unfold E4;rw[if_neg (by rw[h];decide),if_pos h2]
theorem Mc{W:List Int}{P:List PtV}{C:List ChV}(h:C.any (Ew W)=false)(h2:Ev W 0 P=false):E4 W P C=0:=by unfold E4;rw[if_neg (by rw[h];decide),if_neg (by rw[h2];decide)]
theorem Tl{α:Type}(f:α->Bool){l:List α}{i:Nat}{x:α}(h:l[i]? = some x):(l.take (i+1)).any f=((l.take i).any f || f x):=by
 obtain⟨hi,e⟩:=Af.1 h;rw[Cb hi,List.any_append,e];simp
theorem W6{α:Type}(f:α->Bool){l:List α}{i:Nat}{x:α}(h:l[i]? = some x)(hf:f x=true):l.any f=true:=Ds.2 ⟨x,An h,hf⟩
theorem Ke(W:List Int)(a b:List PtV):∀ i,Ev W i (a++b)=(Ev W i a || Ev W (i+a.length) b):=by
 induction a with
 | nil=>intro i;simp[Ev]
 | cons x a ih =>
  intro i;simp only[Bo,Ev,ih,Ad,Bool.or_assoc];rw[show i+1+a.length=i+(a.length+1) by omega]
theorem Ig{W:List Int}{l:List PtV}{i:Nat}{x:PtV}(h:l[i]? = some x):Ev W 0 (l.take (i+1))=(Ev W 0 (l.take i) || Fb W i x):=by
 obtain⟨hi,e⟩:=Af.1 h;rw[Cb hi,Ke,e,Dr,Cl,Nat.min_eq_left (by omega)];simp[Ev]
theorem L4{W:List Int}{l:List PtV}{i:Nat}{x:PtV}(h:l[i]? = some x)(hs:Fb W i x=true):Ev W 0 l=true:=by
 have e:=Ig (W:=W) h;rw[hs,Bool.or_true] at e;have k:=Ke W (l.take (i+1)) (l.drop (i+1)) 0;rw[Dl,e,Bool.true_or] at k;exact k
theorem Uf{W:List Int}{l:List PtV}:Ev W 0 l=false↔∀ i x,l[i]? = some x->Fb W i x=false:=by
 constructor
 ·intro h i x hx;cases hs:Fb W i x with
  | false=>rfl
  | true=>rw[L4 hx hs] at h;cases h
 intro h;have aA:∀ k,Ev W 0 (l.take k)=false:=by
  intro k;induction k with
  | zero=>rfl
  | succ k ih =>
   cases hx:l[k]? with
   | none =>
    have:l.length<=k:=List.getElem?_eq_none_iff.1 hx;rw[Bd (by omega)];rw[Bd this] at ih;exact ih
   | some x=>rw[Ig hx,ih,h k x hx];rfl
 have:=aA l.length;rwa [List.take_length] at this
theorem Vh(A1 A2 A3 A4:Option Addr)(n1 n2 n3 n4 c1 c2 c3 c4:Nat)(P:List PtV)(C:List ChV)(L:List Rn)(w:World)(hP:RdB pcl w w.heap.size A1 n1 P)(hC:RdB cc w w.heap.size A2 n2 C)(hL:RdR w w.heap.size A4 n4 L)
  (q1:n1<=1048576) (q2:n2<=1048576) (q4:n4<=c4) (q5:n4<=1048576) (ht:ticks L<=8192) (hz:∀ x∈P,Ef x.per) :
  Calls Tryz.prog 92 #[.agg #[.slice A1 n1 c1,.slice A2 n2 c2,.slice A3 n3 c3],.slice A4 n4 c4] w (Ans (.int .i64 (E4 (Dx L) P C)) w):=by
 have aC:=bl1 w (.cells #[.slice A1 n1 c1,.slice A2 n2 c2,.slice A3 n3 c3] 31);have bF:=hP.on aC;have bH:=hC.on aC;have aX:=hL.on aC;have m0:(w.alloc (.cells #[.slice A1 n1 c1,.slice A2 n2 c2,.slice A3 n3 c3] 31)).cell? ⟨w.heap.size,0,none⟩=some (.slice A1 n1 c1):=Ab _ _ _ _ _;have aQ:w.heap.size < (w.alloc (.cells #[.slice A1 n1 c1,.slice A2 n2 c2,.slice A3 n3 c3] 31)).heap.size:=by simp
 have HZ:=hid hz;obtain⟨R,hR⟩:∃ R,R=E4 (Dx L) P C:=⟨_,rfl⟩;rw[<- hR];obtain⟨X,hX⟩:∃ X,X=Dx L:=⟨_,rfl⟩;rw[<- hX] at hR;have HR:=hid hR;have HX:=hid hX;have bE:=hP.len;have bG:=hC.len;have bN:=hid bE;have bP:=hid bG;clear hP hC hL hz hR hX bE bG;go_in;go_wp2_with fail;generalize w.alloc (.cells #[.slice A1 n1 c1,.slice A2 n2 c2,.slice A3 n3 c3] 31)=W at aC bF bH aX m0 aQ |-;obtain⟨g,hg⟩:∃ g,g=w.heap.size:=⟨_,rfl⟩;rw[<- hg] at m0 aQ |-;have HG:=hid hg;have bO:=hid m0;clear hg m0;go_loopw [6,7,13] (fun _ _ s wr=>∃ i:Nat,i<=n2/\s=.int .i64 i/\(C.take i).any (Ew X)=false/\Below W.heap.size W wr) (fun _ _ s _=>n2 - (intOf s).toNat)
 case atStart=>exact⟨0,by omega,rfl,rfl,Aj _ _⟩
 obtain⟨i,hi,rfl,aK,hb⟩:=hrel;have aF:=hid aK;clear aK;by_cases aP:i < n2
 ·obtain⟨ad,x,rfl,bD,hx,c0,ck⟩:=(bH.on hb).at_ Gk (by omega) aP;have d0:=c0 _ rfl;have d1:=ck 1 _ (by omega) rfl;have d2:=ck 2 _ (by omega) rfl;have d3:=ck 3 _ (by omega) rfl;have d4:=ck 4 _ (by omega) rfl;have d5:=ck 5 _ (by omega) rfl;have aH:=hid (Tl (Ew X) hx);have aL:=hid (W6 (Ew X) hx);obtain⟨xf,xt,xq,xc,xm,xl⟩:=x;dsimp only at d0 d1 d2 d3 d4 d5;have aJ:=bl1 wr (.cells #[.int .i64 xf,.int .i64 xt,.bool xq,.int .i64 xc,.int .u32 xm,.int .i64 xl] 66);have aI:=hb.trans (aJ.mono hb.size);have bL:=hid (S3 A4 n4 c4 L xf xt _ (aX.on aI) q4 q5 ht);have aD:=hid aI;clear c0 ck hx aJ aI;go_wp2_with fail;refine bL.o.mono ?_;rintro e w5⟨rfl,aB⟩;have e5:w5.cell? ⟨wr.heap.size,5,none⟩=some (.int .i64 xl):=(aB.cell (p:=⟨wr.heap.size,5,none⟩) (by simp)).trans (Ab _ _ _ _ _);have aO:=hid (aD.o.trans (aB.mono aD.o.size));clear aB bL aD d0 d1 d2 d3 d4 d5;rw[<- HX.o];have aT:Ew X ⟨xf,xt,xq,xc,xm,xl⟩=(decide (0 < xl) && (decide (D9 X xf xt < 0) || decide (xl < D9 X xf xt))):=rfl;generalize D9 X xf xt=z at aT |-;generalize wr.heap.size=gx at e5 |-;have aE:=hid aT;clear aT;by_cases t1:0 < xl
  ·have u1:decide (0 < xl)=true:=Ae t1;by_cases t2:z < 0
   ·have u2:decide (z < 0)=true:=Ae t2;have aA:R=19:=by
     rw[HR.o];exact Ji (aL.o (by rw[aE.o,u1,u2];rfl))
    subst aA;go_wp2;go_ret;exact Ans.mk rfl (aC.trans (aO.o.mono aC.size))
   have u2:decide (z < 0)=false:=Ac t2;by_cases t3:xl < z
   ·have u3:decide (xl < z)=true:=Ae t3;have aA:R=19:=by
     rw[HR.o];exact Ji (aL.o (by rw[aE.o,u1,u3];simp))
    subst aA;go_wp2;go_ret;exact Ans.mk rfl (aC.trans (aO.o.mono aC.size))
   have u3:decide (xl < z)=false:=Ac t3;have HN:Hd ((C.take (i+1)).any (Ew X)=false):=hid (by rw[aH.o,aF.o,aE.o,u1,u2,u3];rfl);go_wp2;go_roundw
   case rel=>exact⟨i+1,by omega,by go_num,HN.o,aO.o⟩
   simp[intOf];omega
  have u1:decide (0 < xl)=false:=Ac t1;have HN:Hd ((C.take (i+1)).any (Ew X)=false):=hid (by rw[aH.o,aF.o,aE.o,u1];rfl);go_wp2;go_roundw
  case rel=>exact⟨i+1,by omega,by go_num,HN.o,aO.o⟩
  simp[intOf];omega
 have aR:n2<=i:=by omega
 have aM:Hd (C.any (Ew X)=false):=hid (by
  have h:=aF.o;rw[Bd (by rw[bP.o];exact aR)] at h;exact h)
 clear aF;have m0:=(hb.cell (p:=⟨g,0,none⟩) aQ).trans bO.o;go_wp2;go_loopw [8,9,40] (fun _ _ s wx=>∃ j:Nat,j<=n1/\s=.int .i64 j/\Ev X 0 (P.take j)=false/\Below W.heap.size W wx) (fun _ _ s _=>n1 - (intOf s).toNat)
 case atStart=>exact⟨0,by omega,rfl,rfl,hb⟩
 obtain⟨j,hj,rfl,bB,hb⟩:=hrel;have aY:=hid bB;clear bB;by_cases aP:j < n1
 ·obtain⟨ad,x,rfl,bD,hx,c0,ck⟩:=(bF.on hb).at_ Hn (by omega) aP;have d0:=c0 _ rfl;have d1:=ck 1 _ (by omega) rfl;have d2:=ck 2 _ (by omega) rfl;have d3:=ck 3 _ (by omega) rfl;have d4:=ck 4 _ (by omega) rfl;have d5:=ck 5 _ (by omega) rfl;have d6:=ck 6 _ (by omega) rfl;have d7:=ck 7 _ (by omega) rfl;have d8:=ck 8 _ (by omega) rfl;have d9:=ck 9 _ (by omega) rfl;have bI:=ck 10 _ (by omega) rfl;have bA:=HZ.o x (An hx);have bJ:=hid (Ig (W:=X) hx);have bM:=hid (L4 (W:=X) hx);obtain⟨nm,bu,pe,sc,st,pa,pn,pc,h0,h1,h2,h3,h4⟩:=x;dsimp only at d0 d1 d2 d3 d4 d5 d6 d7 d8 d9 bI bA;have aJ:=bl1 wr (.cells #[.string nm,.int .i64 bu,.int .i64 pe,.bool sc,.bool st,.slice pa pn pc,.int .i64 h0,.int .i64 h1,.int .i64 h2,.int .i64 h3,.int .i64 h4] 60);have aI:=hb.trans (aJ.mono hb.size);have f1:(wr.alloc (.cells #[.string nm,.int .i64 bu,.int .i64 pe,.bool sc,.bool st,.slice pa pn pc,.int .i64 h0,.int .i64 h1,.int .i64 h2,.int .i64 h3,.int .i64 h4] 60)).cell? ⟨wr.heap.size,1,none⟩=some (.int .i64 bu):=Ab _ _ _ _ _;have f2:(wr.alloc (.cells #[.string nm,.int .i64 bu,.int .i64 pe,.bool sc,.bool st,.slice pa pn pc,.int .i64 h0,.int .i64 h1,.int .i64 h2,.int .i64 h3,.int .i64 h4] 60)).cell? ⟨wr.heap.size,2,none⟩=some (.int .i64 pe):=Ab _ _ _ _ _;have aN:wr.heap.size < (wr.alloc (.cells #[.string nm,.int .i64 bu,.int .i64 pe,.bool sc,.bool st,.slice pa pn pc,.int .i64 h0,.int .i64 h1,.int .i64 h2,.int .i64 h3,.int .i64 h4] 60)).heap.size:=by simp
  clear c0 ck hx aJ;go_wp2_with fail;generalize wr.alloc (.cells #[.string nm,.int .i64 bu,.int .i64 pe,.bool sc,.bool st,.slice pa pn pc,.int .i64 h0,.int .i64 h1,.int .i64 h2,.int .i64 h3,.int .i64 h4] 60)=W2 at aI f1 f2 aN |-;generalize wr.heap.size=gx at f1 f2 aN |-;have aD:=hid aI;clear d0 d1 d2 d3 d4 d5 d6 d7 d8 d9 bI aI bD;by_cases bC:0 < bu
  ·have aU:decide (0 < bu)=true:=Ae bC;have aZ:Hd (Calls Tryz.prog 54 #[.slice A4 n4 c4,.int .i64 (j:Int),.int .i64 pe] W2.drew fun e w5=>e=.returned (.int .i64 (Fr (Dx L) (j:Int) pe))/\Below W2.heap.size W2 w5/\w5.cell? ⟨gx,1,none⟩=some (.int .i64 bu)/\w5.cell? ⟨gx,2,none⟩=some (.int .i64 pe)):=hid (by
    refine(Oo A4 n4 c4 L (j:Int) pe W2.drew ((aX.on aD.o).below (Aj _ _).drew) q4 q5 ht bA).mono ?_;rintro e w5⟨rfl,aB⟩;have aV:Below W2.heap.size W2 w5:=⟨aB.os,aB.tape,aB.output,aB.size,aB.block⟩;exact⟨rfl,aV,(aV.cell (p:=⟨gx,1,none⟩) aN).trans f1,(aV.cell (p:=⟨gx,2,none⟩) aN).trans f2⟩)
   rw[<- HX.o] at aZ;have aG:Fb X j ⟨nm,bu,pe,sc,st,pa,pn,pc,h0,h1,h2,h3,h4⟩=(decide (0 < bu) && decide (Fr X (j:Int) pe < bu)):=rfl;generalize Fr X (j:Int) pe=z at aZ aG;rw[aU,Bool.true_and] at aG;have bK:=hid aG;clear aG;go_region_with (go_at_call 54;refine aZ.o.mono ?_;rintro e w5⟨rfl,aB,g1,g2⟩)
   all_goals
    by_cases t2:z < bu
    ·have u2:decide (z < bu)=true:=Ae t2;have aA:R=20:=by
      rw[HR.o];exact Ll aM.o (bM.o (by rw[bK.o];exact u2))
     subst aA;go_wp2;go_ret;exact Ans.mk rfl (aC.trans ((aD.o.trans (aB.mono aD.o.size)).mono aC.size))
    have u2:decide (z < bu)=false:=Ac t2;have HN:Hd (Ev X 0 (P.take (j+1))=false):=hid (by rw[bJ.o,aY.o,bK.o,u2];rfl);go_wp2;go_roundw
    case rel=>exact⟨j+1,by omega,by go_num,HN.o,aD.o.trans (aB.mono aD.o.size)⟩
    simp[intOf];omega
  have aU:decide (0 < bu)=false:=Ac bC;have aG:Fb X j ⟨nm,bu,pe,sc,st,pa,pn,pc,h0,h1,h2,h3,h4⟩=(decide (0 < bu) && decide (Fr X (j:Int) pe < bu)):=rfl;rw[aU,Bool.false_and] at aG;have HN:Hd (Ev X 0 (P.take (j+1))=false):=hid (by rw[bJ.o,aY.o,aG];rfl);clear aG;go_quiet (fail);go_wp2;go_roundw
  case rel=>exact⟨j+1,by omega,by go_num,HN.o,Below.drewN aD.o nq⟩
  simp[intOf];omega
 have aR:n1<=j:=by omega
 have aA:R=0:=by
  rw[HR.o];refine Mc aM.o ?_;have h:=aY.o;rw[Bd (by rw[bN.o];exact aR)] at h;exact h
 subst aA;go_wp2;go_ret;exact Ans.mk rfl (aC.trans (hb.mono aC.size))
theorem mg:Elt 57 62 2 16 (.agg #[.int .i64 0,.int .i64 0]):=⟨Tryz.underlying57,by kernel_rfl,rfl,by omega⟩
theorem mf:Elt 27 60 11 104 (.agg #[.string ⟨#[]⟩,.int .i64 0,.int .i64 0,.bool false,.bool false,.slice none 0 0,.int .i64 0,.int .i64 0,.int .i64 0,.int .i64 0,.int .i64 0]):=⟨Tryz.underlying27,by kernel_rfl,rfl,by omega⟩
theorem jb:Elt 28 66 6 48 (.agg #[.int .i64 0,.int .i64 0,.bool false,.int .i64 0,.int .u32 0,.int .i64 0]):=⟨Tryz.underlying28,by kernel_rfl,rfl,by omega⟩
theorem ja:Elt 29 34 1 24 (.slice none 0 0):=⟨Tryz.underlying29,by kernel_rfl,rfl,by omega⟩
structure Rnd(B b:Nat)(A:Option Addr)(m c:Nat)(f:Nat->Int)(wr w:World):Prop where
 on:Only (fun k=>k=b) wr w
 tp:∃ at_,Eb w B b A m c f at_
section
variable {B b:Nat} {A:Option Addr} {m c:Nat} {f:Nat->Int} {wr w w':World}
theorem Rnd.next{at_:Nat}(h:Rnd B b A m c f wr w)(T:Eb w' B b A m c f at_)(hg:w.grownBy w' (some b)):Rnd B b A m c f wr w':=⟨h.on.trans (Only.gb hg rfl),⟨at_,T⟩⟩
theorem Rnd.blw{g:Nat}(h:Rnd B b A m c f wr w)(hg:wr.heap.size<=g)(hb:b < g)(hw:Below g w w'):Rnd B b A m c f wr w':=by
 obtain⟨at_,T⟩:=h.tp;exact⟨⟨hw.os.trans h.on.os,hw.tape.trans h.on.tape,hw.output.trans h.on.output,Ai h.on.size hw.size,fun k hk hn=>(hw.block k (by omega)).trans (h.on.block k hk hn)⟩,⟨at_,T.below hw hb⟩⟩
theorem Rnd.bel(h:Rnd B b A m c f wr w)(hb:b < wr.heap.size)(hw:Below w.heap.size w w'):Rnd B b A m c f wr w':=by
 obtain⟨at_,T⟩:=h.tp;exact⟨h.on.trans (Only.bel hw),⟨at_,T.below hw (Bc hb h.on.size)⟩⟩
end
def pvf(x:PtV)(j:Nat):Value:=(pcl x)[j]?.getD (.bool false)
def prc(q:Int×Int):List Value:=[.int .i64 q.1,.int .i64 q.2]
theorem F5(q:Int×Int):(prc q).length=2:=rfl
theorem Q6(l:List (Int×Int)):∀ u∈l.flatMap prc,u.oneCell'=true:=by
 intro u hu;obtain⟨x,_,hx⟩:=List.mem_flatMap.1 hu;simp[prc] at hx;rcases hx with rfl | rfl <;> rfl
structure Iy(gx:Nat)(x:PtV)(L:List (Int×Int))(w:World):Prop where
 ve:Vec w gx 11 (pvf x)
 pr:OwnV 62 2 w (gx+1) x.pa x.pn x.pc (L.flatMap prc)
section
variable {gx:Nat} {x:PtV} {L:List (Int×Int)} {w w':World}
theorem Iy.keep(h:Iy gx x L w)(hs:w.heap.size<=w'.heap.size)(hk:∀ k,gx<=k->k < w.heap.size->w'.heap[k]? = w.heap[k]?):Iy gx x L w' :=
 ⟨h.ve.keep (hk gx (Ag _) h.ve.lt) hs,h.pr.keep fun k h1 h2=>hk k (by omega) h2⟩
theorem Iy.gb{b:Nat}(h:Iy gx x L w)(hg:w.grownBy w' (some b))(hb:b < gx):Iy gx x L w':=h.keep hg.size fun k h1 h2=>hg.block k h2 fun e=>by injection e with e;omega
theorem Iy.bel(h:Iy gx x L w)(hb:Below w.heap.size w w'):Iy gx x L w':=h.keep hb.size fun k _ h2=>hb.block k h2
theorem Iy.at_(h:Iy gx x L w)(hL:∀ q∈L,Pk q.1 q.2):F9 w w.heap.size x.pa x.pn:=fun i hi=>by
 have hl:L.length=x.pn:=by
  have:=h.pr.len
  rw[Ln F5] at this
  omega
 have hr:RdB prc w w.heap.size x.pa x.pn L:=⟨hl,h.pr.rd⟩
 obtain⟨ad,q,hA,hb,hq,c0,ck⟩:=hr.at_ F5 (by omega) hi
 exact⟨ad,q.1,q.2,hA,hb,c0 _ rfl,ck 1 _ (by omega) rfl,hL q (An hq)⟩
end
theorem jr{w:World}{g:Nat}{v0 v1:Value}(h0:w.cell? ⟨g,0,none⟩=some v0)(h1:w.cell? ⟨g,1,none⟩=some v1):RdV w w.heap.size (some ⟨g,0,none⟩) [v0,v1]:=fun _=>by
 refine⟨_,rfl,Bj w _ h0,fun j v hj=>?_⟩
 match j with
 | 0=>simp at hj;subst hj;simpa [Addr.add] using h0
 | 1=>simp at hj;subst hj;simpa [Addr.add] using h1
 | j+2=>simp at hj
def PcV(b gx:Nat)(x:PtV)(L:List (Int×Int))(j:Nat)(v:Value)(w:World):Prop :=
 match j with
 | 0=>v=.pointer (some ⟨gx,5,none⟩)
 | 1=>v=.slice x.pa x.pn x.pc
 | 2=>v=.pointer (some ⟨b,0,none⟩)
 | 3=>∃ k:Nat,k < 6/\v=.int .i64 (k:Int)
 | 4=>∃ k:Int,v=.int .i64 k/\0<=k/\k < 512
 | 5=>v=.pointer (some ⟨b,0,none⟩)
 | 6=>∃ k:Int,v=.int .i64 k/\0<=k/\k<=255
 | 7=>∃ p q:Int,v=.agg #[.int .i64 p,.int .i64 q]/\Pk p q
 | 8=>∃(g:Nat) (p q:Int),v=.slice (some ⟨g,0,none⟩) 1 1/\gx < g/\g < w.heap.size/\obk x.pa≠some g/\w.cell? ⟨g,0,none⟩=some (.int .i64 p)/\w.cell? ⟨g,1,none⟩=some (.int .i64 q)/\Pk p q
 | 9=>∃(A':Option Addr) (c':Nat) (q:Int×Int),v=.slice A' (x.pn+1:Nat) c'/\OwnV 62 2 w (gx+1) A' (x.pn+1) c' ((L++[q]).flatMap prc)/\Pk q.1 q.2
 | 10=>v=.pointer (some ⟨gx,5,none⟩)
 | 11=>∃(A':Option Addr) (c':Nat) (q:Int×Int),Iy gx { x with pa:=A',pn:=x.pn+1,pc:=c' } (L++[q]) w/\Pk q.1 q.2
 | _=>True
structure PcW(B b:Nat)(A:Option Addr)(m c:Nat)(f:Nat->Int)(wr:World)(gx:Nat)(x:PtV)(L:List (Int×Int))(live:Nat->Bool)(w:World):Prop where
 rn:Rnd B b A m c f wr w
 lt:gx < w.heap.size
 ve:live 11=false->Vec w gx 11 (pvf x)
 pr:live 9=false->OwnV 62 2 w (gx+1) x.pa x.pn x.pc (L.flatMap prc)
section
variable {b gx:Nat} {x:PtV} {L:List (Int×Int)} {w w':World}
theorem PcV.keep(hs:w.heap.size<=w'.heap.size)(j:Nat)(v:Value)(hk:∀ k,(j=11/\gx<=k)\/(j=9/\gx < k)\/(j=8/\gx < k/\obk x.pa≠some k)->k < w.heap.size->w'.heap[k]? = w.heap[k]?)(h:PcV b gx x L j v w):PcV b gx x L j v w':=by
 unfold PcV at h |-;split at h
 case h_9 =>
  obtain⟨g,p,q,h1,h2,h3,h4,h5,h6,h7⟩:=h;have hb:=hk g (.inr (.inr ⟨rfl,h2,h4⟩)) h3;exact⟨g,p,q,h1,h2,by omega,h4,(Bf hb).trans h5,(Bf hb).trans h6,h7⟩
 case h_10 =>
  obtain⟨A',c',q,h1,h2,h7⟩:=h;exact⟨A',c',q,h1,h2.keep fun k h3 h4=>hk k (.inr (.inl ⟨rfl,by omega⟩)) h4,h7⟩
 case h_12 =>
  obtain⟨A',c',q,h1,h7⟩:=h;exact⟨A',c',q,h1.keep hs fun k h3 h4=>hk k (.inl ⟨rfl,h3⟩) h4,h7⟩
 all_goals exact h
theorem PcV.gb(hb:b < gx)(hg:w.grownBy w' (some b))(j:Nat)(v:Value)(h:PcV b gx x L j v w):PcV b gx x L j v w' :=
 h.keep hg.size j v fun k hk hl=>hg.block k hl fun e=>by
  injection e with e
  rcases hk with hk | hk | hk <;> omega
theorem PcV.bel(hb:Below w.heap.size w w')(j:Nat)(v:Value)(h:PcV b gx x L j v w):PcV b gx x L j v w':=h.keep hb.size j v fun k _ hl=>hb.block k hl
variable {B m c:Nat} {A:Option Addr} {f:Nat->Int} {wr:World} {live:Nat->Bool}
theorem PcW.upd(h:PcW B b A m c f wr gx x L live w)(i:Nat):PcW B b A m c f wr gx x L (Rgs.upd live i) w:=⟨h.rn,h.lt,fun e=>h.ve (Rgs.upd_off e),fun e=>h.pr (Rgs.upd_off e)⟩
theorem PcW.next(h:PcW B b A m c f wr gx x L live w)(hb:b < gx){at_:Nat}(T:Eb w' B b A m c f at_)(hg:w.grownBy w' (some b)):PcW B b A m c f wr gx x L live w' :=
 ⟨h.rn.next T hg,Bc h.lt hg.size,fun e=>(h.ve e).keep (hg.block gx h.lt fun e=>by injection e with e;omega) hg.size,fun e=>(h.pr e).gb hg (by omega)⟩
theorem PcW.bel(h:PcW B b A m c f wr gx x L live w)(hb:b < wr.heap.size)(hw:Below w.heap.size w w'):PcW B b A m c f wr gx x L live w' :=
 ⟨h.rn.bel hb hw,Bc h.lt hw.size,fun e=>(h.ve e).on hw,fun e=>(h.pr e).below rfl hw⟩
end
theorem Wn(l:List PtV):∀ u∈l.flatMap pcl,u.oneCell'=true:=by
 intro u hu;obtain⟨x,_,hx⟩:=List.mem_flatMap.1 hu;simp[pcl] at hx;rcases hx with rfl | rfl | rfl | rfl | rfl | rfl | rfl | rfl | rfl | rfl | rfl <;> rfl
theorem Vt(l:List ChV):∀ u∈l.flatMap cc,u.oneCell'=true:=by
 intro u hu;obtain⟨x,_,hx⟩:=List.mem_flatMap.1 hu;simp[cc] at hx;rcases hx with rfl | rfl | rfl | rfl | rfl | rfl <;> rfl
theorem fk(l:List TbV):∀ u∈l.flatMap tcl,u.oneCell'=true:=by
 intro u hu;obtain⟨x,_,hx⟩:=List.mem_flatMap.1 hu;simp[tcl] at hx;subst hx;rfl
def Jr(x:PtV):Prop:=(0<=x.h0/\x.h0<=2)/\(0<=x.h1/\x.h1<=2)/\(0<=x.h2/\x.h2<=2)/\(0<=x.h3/\x.h3<=2)/\(0<=x.h4/\x.h4<=2)
def nmL(i:Nat):ByteArray:=({ data:=#[112] }:ByteArray)++Utf8.encode (97+i)
def Tn(P:List PtV):Prop:=∀ i x,P[i]? = some x->x.name=nmL i/\x.bud=0/\x.per=0/\Jr x/\(1<=x.pn/\x.pn<=2)/\x.pn<=x.pc
theorem Tn.more{P:List PtV}(h:Tn P){x:PtV}{n:Nat}(hn:P.length=n)(hx:x.name=nmL n/\x.bud=0/\x.per=0/\Jr x/\(1<=x.pn/\x.pn<=2)/\x.pn<=x.pc):Tn (P++[x]):=fun i y hy=>by
 rcases Bk i P.length with h1 | h1
 ·rw[Dq h1] at hy
  exact h i y hy
 ·rw[Cy h1] at hy
  have h2:=(Af.1 hy).1
  simp at h2
  obtain rfl:i=n:=by omega
  rw[show i - P.length=0 by omega] at hy
  simp at hy
  subst hy
  exact hx
theorem Tn.bud{P:List PtV}(h:Tn P):∀ x∈P,x.bud<=0:=fun x hx=>by
 obtain⟨i,hi⟩:=Bl hx
 rw[(h i x hi).2.1]
 exact Int.le_refl _
theorem Iy.heal{gx:Nat}{x:PtV}{L:List (Int×Int)}{w:World}(h:Iy gx x L w){j:Nat}(hj:j < 5)(z:Int)(hz:0<=z/\z<=2)(hl:Jr x):∃ x':PtV,x'.pa=x.pa/\x'.pn=x.pn/\x'.pc=x.pc/\x'.per=x.per/\x'.bud=x.bud/\x'.name=x.name/\Jr x'/\Iy gx x' L (w.setCell ⟨gx,6+j,none⟩ (.int .i64 z)):=by
 have aA:OwnV 62 2 (w.setCell ⟨gx,6+j,none⟩ (.int .i64 z)) (gx+1) x.pa x.pn x.pc (L.flatMap prc):=h.pr.other _ _ fun g e e2=>by have:=(h.pr.obk_ge (b:=g) (by rw[e];rfl)).1;have e2:g=gx:=e2;omega
 have hv:=h.ve.set (6+j) (.int .i64 z);rcases(by omega:j=0\/j=1\/j=2\/j=3\/j=4) with rfl | rfl | rfl | rfl | rfl
 ·exact⟨{ x with h0:=z },rfl,rfl,rfl,rfl,rfl,rfl,⟨hz,hl.2.1,hl.2.2.1,hl.2.2.2.1,hl.2.2.2.2⟩,hv.congr fun i hi=>by rcases(by omega:i=0\/i=1\/i=2\/i=3\/i=4\/i=5\/i=6\/i=7\/i=8\/i=9\/i=10) with rfl | rfl | rfl | rfl | rfl | rfl | rfl | rfl | rfl | rfl | rfl <;> rfl,aA⟩
 ·exact⟨{ x with h1:=z },rfl,rfl,rfl,rfl,rfl,rfl,⟨hl.1,hz,hl.2.2.1,hl.2.2.2.1,hl.2.2.2.2⟩,hv.congr fun i hi=>by rcases(by omega:i=0\/i=1\/i=2\/i=3\/i=4\/i=5\/i=6\/i=7\/i=8\/i=9\/i=10) with rfl | rfl | rfl | rfl | rfl | rfl | rfl | rfl | rfl | rfl | rfl <;> rfl,aA⟩
 ·exact⟨{ x with h2:=z },rfl,rfl,rfl,rfl,rfl,rfl,⟨hl.1,hl.2.1,hz,hl.2.2.2.1,hl.2.2.2.2⟩,hv.congr fun i hi=>by rcases(by omega:i=0\/i=1\/i=2\/i=3\/i=4\/i=5\/i=6\/i=7\/i=8\/i=9\/i=10) with rfl | rfl | rfl | rfl | rfl | rfl | rfl | rfl | rfl | rfl | rfl <;> rfl,aA⟩
 ·exact⟨{ x with h3:=z },rfl,rfl,rfl,rfl,rfl,rfl,⟨hl.1,hl.2.1,hl.2.2.1,hz,hl.2.2.2.2⟩,hv.congr fun i hi=>by rcases(by omega:i=0\/i=1\/i=2\/i=3\/i=4\/i=5\/i=6\/i=7\/i=8\/i=9\/i=10) with rfl | rfl | rfl | rfl | rfl | rfl | rfl | rfl | rfl | rfl | rfl <;> rfl,aA⟩
 exact⟨{ x with h4:=z },rfl,rfl,rfl,rfl,rfl,rfl,⟨hl.1,hl.2.1,hl.2.2.1,hl.2.2.2.1,hz⟩,hv.congr fun i hi=>by rcases(by omega:i=0\/i=1\/i=2\/i=3\/i=4\/i=5\/i=6\/i=7\/i=8\/i=9\/i=10) with rfl | rfl | rfl | rfl | rfl | rfl | rfl | rfl | rfl | rfl | rfl <;> rfl,aA⟩
def zch:ChV:=⟨0,0,false,0,0,0⟩
def ccf(x:ChV)(j:Nat):Value:=(cc x)[j]?.getD (.bool false)
def O9(n:Nat)(x:ChV):Prop:=0<=x.from_/\x.from_ < n/\0<=x.to_/\x.to_ < n/\0<=x.max/\x.max<=4294967295
def fc(n:Nat)(x:ChV):Prop:=O9 n x/\x.late=0/\x.from_≠x.to_/\x.cap=0
def Xb(n:Nat)(x:ChV):Prop:=O9 n x/\x.late=0/\x.from_≠x.to_/\if x.queue=true then 1<=x.cap/\x.cap<=8 else x.cap=0
theorem ah{f k n:Nat}(hf:f < n)(hk:k < n - 1):(f+1+k) % n≠f:=by
 rcases Bk (f+1+k) n with h | h
 ·rw[Nat.mod_eq_of_lt h];omega
 rw[Nat.mod_eq_sub_mod h,Nat.mod_eq_of_lt (by omega)];omega
def Oz(b base n fr:Nat)(j:Nat)(v:Value)(w:World):Prop :=
 match j with
 | 0=>v=.int .i64 (fr:Int)
 | 1=>v=.int .i64 (fr:Int)
 | 2=>v=.int .i64 ((fr:Int)+1)
 | 3=>v=.pointer (some ⟨b,0,none⟩)
 | 4=>v=.int .i64 (n:Int)
 | 5=>v=.int .i64 ((n:Int) - 1)
 | 6=>∃ k:Nat,k < n - 1/\v=.int .i64 (k:Int)
 | 7=>∃ k:Nat,k < n - 1/\v=.int .i64 ((fr:Int)+1+(k:Int))
 | 8=>v=.int .i64 (n:Int)
 | 9=>∃ k:Nat,(k < n/\k≠fr)/\v=.int .i64 (k:Int)
 | 10=>v=.pointer (some ⟨b,0,none⟩)
 | 11=>∃ k:Int,v=.int .i64 k
 | 12=>∃ q:Bool,v=.bool q
 | 13=>∃ g:Nat,v=.slice (some ⟨g,0,none⟩) 3 3/\base<=g/\g < w.heap.size/\∀ k,k < 3->∃ z:Int,w.cell? ⟨g,k,none⟩=some (.int .u32 z)/\0<=z/\z<=4294967295
 | 14=>v=.pointer (some ⟨b,0,none⟩)
 | 15=>∃ k:Nat,k < 3/\v=.int .i64 (k:Int)
 | 16=>∃(g k:Nat) (z:Int),v=.pointer (some ⟨g,k,none⟩)/\base<=g/\g < w.heap.size/\w.cell? ⟨g,k,none⟩=some (.int .u32 z)/\(0<=z/\z<=4294967295)/\∃ z,w.cell? ⟨g,0,none⟩=some (.int .u32 z)
 | 17=>∃ z:Int,v=.int .u32 z/\0<=z/\z<=4294967295
 | 18=>∃ x:ChV,fc n x/\v=cv x
 | _=>True
structure Mj(B b:Nat)(A:Option Addr)(m c:Nat)(f:Nat->Int)(wr:World)(n:Nat)(live:Nat->Bool)(a:Act)(w:World):Prop where
 rn:Rnd B b A m c f wr w
 un:live 19=true->live 20=false->∃ g,a.eval (.tmp 11)=.pointer (some ⟨g,0,none⟩)/\wr.heap.size<=g/\Vec w g 6 (ccf zch)
 at_:live 20=true->∃ g x,a.eval (.tmp 11)=.pointer (some ⟨g,0,none⟩)/\wr.heap.size<=g/\fc n x/\Vec w g 6 (ccf x)
section
variable {b base n fr:Nat} {w w':World}
theorem Oz.keep(hs:w.heap.size<=w'.heap.size)(j:Nat)(v:Value)(hk:∀ k,base<=k->(∃ z,w.cell? ⟨k,0,none⟩=some (.int .u32 z))->k < w.heap.size->w'.heap[k]? = w.heap[k]?)(h:Oz b base n fr j v w):Oz b base n fr j v w':=by
 unfold Oz at h |-;split at h
 case h_14 =>
  obtain⟨g,h1,h2,h3,h4⟩:=h;exact⟨g,h1,h2,by omega,fun k aD=>by
   obtain⟨z,hz,aB⟩:=h4 k aD;obtain⟨z0,aC,_⟩:=h4 0 (by omega);exact⟨z,(Bf (hk g h2 ⟨z0,aC⟩ h3)).trans hz,aB⟩⟩
 case h_17 =>
  obtain⟨g,k,z,h1,h2,h3,h4,aA,z0,h5⟩:=h;exact⟨g,k,z,h1,h2,by omega,(Bf (hk g h2 ⟨z0,h5⟩ h3)).trans h4,aA,z0,(Bf (hk g h2 ⟨z0,h5⟩ h3)).trans h5⟩
 all_goals exact h
theorem Oz.gb(hb:b < base)(hg:w.grownBy w' (some b))(j:Nat)(v:Value)(h:Oz b base n fr j v w):Oz b base n fr j v w' :=
 h.keep hg.size j v fun k hk _ hl=>hg.block k hl fun e=>by injection e with e;omega
theorem Oz.bel(hb:Below w.heap.size w w')(j:Nat)(v:Value)(h:Oz b base n fr j v w):Oz b base n fr j v w':=h.keep hb.size j v fun k _ _ hl=>hb.block k hl
variable {B m c:Nat} {A:Option Addr} {f:Nat->Int} {wr:World} {live:Nat->Bool} {a:Act}
theorem Mj.upd(h:Mj B b A m c f wr n live a w)(i:Nat)(d:Tmp)(v:Value)(hi:i≠19/\i≠20:=by decide)(hd:d≠11:=by decide):Mj B b A m c f wr n (Rgs.upd live i) (a.put (some d) v) w:=by
 have e1:Rgs.upd live i 19=live 19:=by unfold Rgs.upd;simp[Ne.symm hi.1]
 have e2:Rgs.upd live i 20=live 20:=by unfold Rgs.upd;simp[Ne.symm hi.2]
 refine⟨h.rn,fun h1 h2=>?_,fun h1=>?_⟩
 ·rw[Reg.eval_other _ _ _ _ hd];exact h.un (e1▸h1) (e2▸h2)
 rw[Reg.eval_other _ _ _ _ hd];exact h.at_ (e2▸h1)
theorem Mj.up(h:Mj B b A m c f wr n live a w){i:Nat}{d:Tmp}{v:Value}(hi:i≠19/\i≠20:=by decide)(hd:d≠11:=by decide):Mj B b A m c f wr n (Rgs.upd live i) (a.put (some d) v) w:=h.upd i d v hi hd
theorem Mj.next(h:Mj B b A m c f wr n live a w)(hb:b < wr.heap.size){at_:Nat}(T:Eb w' B b A m c f at_)(hg:w.grownBy w' (some b)):Mj B b A m c f wr n live a w':=by
 refine⟨h.rn.next T hg,fun h1 h2=>?_,fun h1=>?_⟩
 ·obtain⟨g,e,aA,hv⟩:=h.un h1 h2;exact⟨g,e,aA,hv.keep (hg.block g hv.lt fun e=>by injection e with e;omega) hg.size⟩
 obtain⟨g,x,e,aA,ho,hv⟩:=h.at_ h1;exact⟨g,x,e,aA,ho,hv.keep (hg.block g hv.lt fun e=>by injection e with e;omega) hg.size⟩
theorem Mj.bel(h:Mj B b A m c f wr n live a w)(hb:b < wr.heap.size)(hw:Below w.heap.size w w'):Mj B b A m c f wr n live a w':=by
 refine⟨h.rn.bel hb hw,fun h1 h2=>?_,fun h1=>?_⟩
 ·obtain⟨g,e,aA,hv⟩:=h.un h1 h2;exact⟨g,e,aA,hv.on hw⟩
 obtain⟨g,x,e,aA,ho,hv⟩:=h.at_ h1;exact⟨g,x,e,aA,ho,hv.on hw⟩
end
def TbQ(Q:Nat)(x:TbV):Prop:=∀ y∈x.x::x.k.flat,0<=y.p/\y.p < (Q:Int)
structure Kv(BB:Nat)(A1 A2 A3:Option Addr)(Q:Nat)(x:TbV)(w:World):Prop where
 q:TbQ Q x
 at_:Mg w w.heap.size x/\Lu x
 ap:∀ k,obk x.A=some k->BB<=k/\k < w.heap.size/\obk A1≠some k/\obk A2≠some k/\obk A3≠some k
theorem Kv.only{BB Q:Nat}{A1 A2 A3:Option Addr}{x:TbV}{w w':World}{p:Nat->Prop}(h:Kv BB A1 A2 A3 Q x w)(ho:Only p w w')(hp:∀ k,p k->k < BB\/obk A3=some k):Kv BB A1 A2 A3 Q x w' :=
 ⟨h.q,⟨h.at_.1.only ho fun k hk e=>by
   have h1:=h.ap k hk
   rcases hp k e with e | e
   ·omega
   ·exact h1.2.2.2.2 e,h.at_.2⟩,fun k hk=>⟨(h.ap k hk).1,Bc (h.ap k hk).2.1 ho.size,(h.ap k hk).2.2⟩⟩
section
variable (B b:Nat) (A:Option Addr) (m c:Nat) (f:Nat->Int) (w0:World) (gr gc BB:Nat) (A1 A2 A3:Option Addr) (n1 n2 n3 c1 c2 c3:Nat) (P:List PtV) (C:List ChV) (T:List TbV)
def Pi(j:Nat)(v:Value)(w:World):Prop :=
 match j with
 | 0=>v=.pointer (some ⟨gc,2,none⟩)
 | 1=>v=.slice A3 n3 c3
 | 2=>v=.pointer (some ⟨b,0,none⟩)
 | 3=>v=.int .i64 (n1:Int)
 | 4=>∃ x:TbV,v=.slice x.A x.n x.c/\Kv BB A1 A2 A3 n1 x w
 | 5=>∃(g:Nat) (x:TbV),v=.slice (some ⟨g,0,none⟩) 1 1/\BB<=g/\g < w.heap.size/\obk A3≠some g/\w.cell? ⟨g,0,none⟩=some (.slice x.A x.n x.c)/\Kv BB A1 A2 A3 n1 x w
 | 6=>w.cell? ⟨gc,2,none⟩=some (.slice A3 n3 c3)->∃(A':Option Addr) (c':Nat) (w1:World) (x:TbV),v=.slice A' (n3+1:Nat) c'/\CfgS B b A m c f w0 gr gc BB A1 A2 A3 n1 n2 n3 c1 c2 c3 P C T w1/\Kv BB A1 A2 A3 n1 x w1/\Grew A3 A' w1 w/\OwnV 34 1 w BB A' (n3+1) c' ((T++[x]).flatMap tcl)
 | 7=>v=.pointer (some ⟨gc,2,none⟩)
 | 8=>∃(A':Option Addr) (c':Nat) (x:TbV),CfgS B b A m c f w0 gr gc BB A1 A2 A' n1 n2 (n3+1) c1 c2 c' P C (T++[x]) w/\TbQ n1 x
 | _=>True
structure Zm(live:Nat->Bool)(w:World):Prop where
 cf:live 6=false->CfgS B b A m c f w0 gr gc BB A1 A2 A3 n1 n2 n3 c1 c2 c3 P C T w
 ce:live 8=false->w.cell? ⟨gc,2,none⟩=some (.slice A3 n3 c3)/\w.frozen? ⟨gc,2,none⟩=false/\BB<=w.heap.size
end
section
variable {B b:Nat} {A:Option Addr} {m c:Nat} {f:Nat->Int} {w0:World} {gr gc BB:Nat} {A1 A2 A3:Option Addr} {n1 n2 n3 c1 c2 c3:Nat} {P:List PtV} {C:List ChV} {T:List TbV} {w w':World} {live:Nat->Bool}
theorem Zm.upd(h:Zm B b A m c f w0 gr gc BB A1 A2 A3 n1 n2 n3 c1 c2 c3 P C T live w)(i:Nat):Zm B b A m c f w0 gr gc BB A1 A2 A3 n1 n2 n3 c1 c2 c3 P C T (Rgs.upd live i) w:=⟨fun e=>h.cf (Rgs.upd_off e),fun e=>h.ce (Rgs.upd_off e)⟩
theorem Pi.keep{p:Nat->Prop}(j:Nat)(v:Value)(ho:Only p w w')(hp:∀ k,p k->k < BB\/obk A3=some k)(h6:j≠6)(h8:j≠8)(h:Pi B b A m c f w0 gr gc BB A1 A2 A3 n1 n2 n3 c1 c2 c3 P C T j v w):Pi B b A m c f w0 gr gc BB A1 A2 A3 n1 n2 n3 c1 c2 c3 P C T j v w':=by
 unfold Pi at h |-;split at h
 case h_5 =>
  obtain⟨x,h1,h2⟩:=h;exact⟨x,h1,h2.only ho hp⟩
 case h_6 =>
  obtain⟨g,x,h1,h2,h3,h4,h5,h6⟩:=h;refine⟨g,x,h1,h2,Bc h3 ho.size,h4,(Bf (ho.block g h3 fun e=>?_)).trans h5,h6.only ho hp⟩;rcases hp g e with e | e
  ·omega
  exact h4 e
 case h_7=>exact absurd rfl h6
 case h_9=>exact absurd rfl h8
 all_goals exact h
theorem Only.grew{A0 A':Option Addr}(h:Grew A0 A' w w'):Only (fun k=>obk A0=some k) w w':=⟨h.gb.os,h.gb.tape,h.gb.output,h.gb.size,fun k hk hn=>h.gb.block k hk fun e=>hn e.symm⟩
end
theorem js{w:World}{g:Nat}{v0:Value}(h0:w.cell? ⟨g,0,none⟩=some v0):RdV w w.heap.size (some ⟨g,0,none⟩) [v0]:=fun _=>by
 refine⟨_,rfl,Bj w _ h0,fun j v hj=>?_⟩
 match j with
 | 0=>simp at hj;subst hj;simpa [Addr.add] using h0
 | j+1=>simp at hj
def mn(Rt:Nat->List PtV->List ChV->List TbV->World->Prop)(B b:Nat)(A:Option Addr)(m c:Nat)(f:Nat->Int)(w:World)(e:Ending)(w':World):Prop :=
 ∃(A1 A2 A3:Option Addr) (n1 n2 n3 c1 c2 c3:Nat) (P:List PtV) (C:List ChV) (T:List TbV) (at':Nat),e=.returned (.agg #[.slice A1 n1 c1,.slice A2 n2 c2,.slice A3 n3 c3])/\CfW w' w'.heap.size A1 A2 n1 n2 P C/\1<=n1/\n1<=4/\n2<=3/\n1<=c1/\n2<=c2/\
  (∀ x∈C,O9 n1 x)/\RdB tcl w' w'.heap.size A3 n3 T/\(∀ t∈T,Mg w' w'.heap.size t/\Lu t)/\1<=n3/\n3<=2/\n3<=c3/\Eb w' B b A m c f at'/\w.grownBy w' (some b)/\
  (∀ x∈P,Ef x.per)/\(∀ x∈C,∀ t∈T,Ew (Dx (E8 t)) x=false)/\(∀ k x,P[k]? = some x->∀ t∈T,Fb (Dx (E8 t)) k x=false)/\
  Ey 60 11 pcl w' w.heap.size A1 n1 c1 P/\Ey 66 6 cc w' w.heap.size A2 n2 c2 C/\(∀ k,obk A1=some k->obk A2≠some k)/\
  (∀ k,obk A3=some k->w.heap.size<=k)/\(∀ t∈T,∀ k,obk t.A=some k->w.heap.size<=k)/\Rt n1 P C T w'
def pO(b:Nat)(A1 A2:Option Addr)(k:Nat):Prop:=k=b\/obk A1=some k\/obk A2=some k
section
variable {B b:Nat} {A:Option Addr} {m c:Nat} {f:Nat->Int} {w:World} {gr gc BB:Nat} {A1 A2 A3:Option Addr} {n1 n2 n3 c1 c2 c3:Nat} {P P':List PtV} {C C':List ChV} {T:List TbV} {wr w':World}
theorem CfgS.asked(h:CfgS B b A m c f w gr gc BB A1 A2 A3 n1 n2 n3 c1 c2 c3 P C T wr)(hB:CfgB b w gr gc BB):Tp (pO b A1 A2) wr A3 n3 P T:=by
 have h1:=hB.br;have h3:=hB.rc;have h4:=hB.cB;refine⟨h.tb.rdb,fun t ht=>(h.tt t ht).1,fun x hx=>(h.pt x hx).1,fun k hk e=>?_,fun t ht k hk e=>?_,fun x hx k hk e=>?_⟩
 ·rcases e with e | e | e
  ·have:=(h.tb.own.obk_ge hk).1;omega
  ·exact h.d13 k e hk
  exact h.d23 k e hk
 ·have h5:=(h.tt t ht).2 k hk;rcases e with e | e | e
  ·omega
  ·exact h5.2.2.1 e
  exact h5.2.2.2.1 e
 have h5:=(h.pt x hx).2 k hk;rcases e with e | e | e
 ·omega
 ·exact h5.2.2.1 e
 exact h5.2.2.2.1 e
theorem O9.of{n:Nat}(hm:C'.map coreC=C.map coreC)(hc:∀ x∈C,O9 n x):∀ x∈C',O9 n x:=fun x hx=>by
 have h1:coreC x∈C.map coreC:=by rw[<- hm];exact List.mem_map_of_mem hx
 obtain⟨y,hy,e⟩:=By.1 h1
 have h2:=hc y hy
 have e5:y.max=x.max:=(show (coreC y).max=(coreC x).max from congrArg ChV.max e)
 unfold coreC at e
 injection e with e1 e2 e3
 unfold O9 at h2 |-
 rw[<- e1,<- e2,<- e5]
 exact h2
theorem CfgS.fin(h:CfgS B b A m c f w gr gc BB A1 A2 A3 n1 n2 n3 c1 c2 c3 P C T wr)(hB:CfgB b w gr gc BB)(q1:1<=n1)(q2:n1<=4)(q3:n2<=3)(q4:1<=n3)(q5:n3<=2)(hc:∀ x∈C,O9 n1 x)
  (hP:RdB pcl w' w'.heap.size A1 n1 P') (hC:RdB cc w' w'.heap.size A2 n2 C') (hm:C'.map coreC=C.map coreC) {aD:Nat} (hT:Eb w' B b A m c f aD) (ho:Only (pO b A1 A2) wr w') (aJ:∀ x∈P',Ef x.per) (aI:∀ x∈C',∀ t∈T,Ew (Dx (E8 t)) x=false) (aG:∀ k x,P'[k]? = some x->∀ t∈T,Fb (Dx (E8 t)) k x=false)
  (aN:Ey 60 11 pcl w' BB A1 n1 c1 P') (aO:Ey 66 6 cc w' BB A2 n2 c2 C') {Rt:Nat->List PtV->List ChV->List TbV->World->Prop} (aH:Rt n1 P' C' T (Fo w' gr (.slice A1 n1 c1) (.slice A2 n2 c2) (.slice A3 n3 c3))) :
  Vec w' gr 3 (Vv (.slice none 0 0) (.slice none 0 0) (.slice none 0 0))/\mn Rt B b A m c f w (.returned (.agg #[.slice A1 n1 c1,.slice A2 n2 c2,.slice A3 n3 c3])) (Fo w' gr (.slice A1 n1 c1) (.slice A2 n2 c2) (.slice A3 n3 c3)):=by
 have h1:=hB.br;have h2:=hB.wr;have h3:=hB.rc;have h4:=hB.cB;have aK:=h.gb.size;have np:∀ k,pO b A1 A2 k->k=b\/BB<=k:=fun k e=>by
  rcases e with e | e | e
  ·exact .inl e
  ·exact .inr (h.pp.own.obk_ge e).1
  exact .inr (h.ch.own.obk_ge e).1
 have aL:¬ pO b A1 A2 gr:=fun e=>by have:=np gr e;omega
 have hv:=h.rs.keep (ho.block gr h.rs.lt aL) ho.size;have hA:=(h.asked hB).only ho;have hs:(Fo w' gr (.slice A1 n1 c1) (.slice A2 n2 c2) (.slice A3 n3 c3)).heap.size=w'.heap.size:=by simp[Fo]
 have aA:∀ k,k≠gr->(Fo w' gr (.slice A1 n1 c1) (.slice A2 n2 c2) (.slice A3 n3 c3)).heap[k]? = w'.heap[k]?:=fun k hk=>by
  unfold Fo;rw[Bn _ _ _ _ hk,Bn _ _ _ _ hk,Bn _ _ _ _ hk]
 have aB:Only (fun k=>k=gr) w' (Fo w' gr (.slice A1 n1 c1) (.slice A2 n2 c2) (.slice A3 n3 c3)):=⟨rfl,rfl,rfl,by rw[hs];exact Ag _,fun k _ hk=>aA k hk⟩;have aF:∀ k,obk A1=some k->k≠gr:=fun k e=>by have:=(h.pp.own.obk_ge e).1;omega
 have aE:∀ k,obk A2=some k->k≠gr:=fun k e=>by have:=(h.ch.own.obk_ge e).1;omega
 have aM:Below gr w' (Fo w' gr (.slice A1 n1 c1) (.slice A2 n2 c2) (.slice A3 n3 c3)):=⟨rfl,rfl,rfl,by rw[hs];exact Ag _,fun k hk=>aA k (by omega)⟩;refine⟨hv,A1,A2,A3,n1,n2,n3,c1,c2,c3,P',C',T,aD,rfl,⟨⟨hP.len,?_⟩,⟨hC.len,?_⟩⟩,q1,q2,q3,h.pp.cap,h.ch.cap,O9.of hm hc,⟨hA.t.len,?_⟩,fun t ht=>⟨?_,(hA.tt t ht).2⟩,q4,q5,h.tb.cap,hT.below aM h1,?_,aJ,aI,aG,?_,?_,h.d12,fun k e=>by have:=(h.tb.own.obk_ge e).1;omega,fun t ht k e=>by have:=((h.tt t ht).2 k e).1;omega,aH⟩
 ·exact aB.rdv (B:=0) hP.rd fun k e=>aF k e
 ·exact aB.rdv (B:=0) hC.rd fun k e=>aE k e
 ·exact aB.rdv (B:=0) hA.t.rd fun k e=>by have:=(h.tb.own.obk_ge e).1;omega
 ·exact(hA.tt t ht).1.only aB fun k e=>by have:=((h.tt t ht).2 k e).1;omega
 ·refine⟨ho.os.trans h.gb.os,ho.tape.trans h.gb.tape,ho.output.trans h.gb.output,by rw[hs];exact Ai aK ho.size,fun k hk aC=>?_⟩;have aP:k≠b:=fun e=>aC (by rw[e]);exact((aA k (by omega)).trans (ho.block k (by omega) fun e=>by have:=np k e;omega)).trans (h.gb.block k hk aC)
 ·exact((((aN.other ⟨gr,0,none⟩ _ fun g e e2=>by have:=(h.pp.own.obk_ge (b:=g) (by rw[e];rfl)).1;have e2:g=gr:=e2;omega).other ⟨gr,1,none⟩ _ fun g e e2=>by have:=(h.pp.own.obk_ge (b:=g) (by rw[e];rfl)).1;have e2:g=gr:=e2;omega).other ⟨gr,2,none⟩ _ fun g e e2=>by have:=(h.pp.own.obk_ge (b:=g) (by rw[e];rfl)).1;have e2:g=gr:=e2;omega)).weak (by omega)
 exact((((aO.other ⟨gr,0,none⟩ _ fun g e e2=>by have:=(h.ch.own.obk_ge (b:=g) (by rw[e];rfl)).1;have e2:g=gr:=e2;omega).other ⟨gr,1,none⟩ _ fun g e e2=>by have:=(h.ch.own.obk_ge (b:=g) (by rw[e];rfl)).1;have e2:g=gr:=e2;omega).other ⟨gr,2,none⟩ _ fun g e e2=>by have:=(h.ch.own.obk_ge (b:=g) (by rw[e];rfl)).1;have e2:g=gr:=e2;omega)).weak (by omega)
end
end Go.Proofs.YtfmndmhjjbeokaaGreatDoor
namespace Go.Proofs.YtfmndmhjjbeokaaGreatDoor
open Go.RowKit Tab Txt
theorem Txt.bs_ext(l:List UInt8)(a b:Nat):(bsOf l).extract a b=bsOf ((l.take b).drop a):=by
 apply ByteArray.ext;rw[ByteArray.data_extract];show l.toArray.extract a b=((l.take b).drop a).toArray;rw[List.extract_toArray,List.extract_eq_take_drop,List.drop_take]
theorem Txt.bs_from(l:List UInt8)(a n:Nat)(h:l.length=n):(bsOf l).extract a n=bsOf (l.drop a):=by
 rw[bs_ext,Bd (by omega)]
theorem Txt.bs_upto(l:List UInt8)(b:Nat):(bsOf l).extract 0 b=bsOf (l.take b):=by
 rw[bs_ext];rfl
theorem Txt.ahead_split{p:UInt8->Bool}{s:List UInt8}{i:Nat}(h:∀ j,j < i->∀ d,s[j]? = some d->p d=false)(hc:∀ c,s[i]? = some c->p c=true):aheadT p s=s.take i/\behindT p s=s.drop i:=by
 have:=ahead_at p (x:=s.take i) (t:=s.drop i) (fun c hc=>by
  obtain⟨j,hj⟩:=Bl hc;have aA:j < i:=by have:=(Af.1 hj).1;rw[Cl] at this;omega
  rw[List.getElem?_take_of_lt aA] at hj;exact h j aA c hj) (fun c aB=>hc c (by rw[List.head?_drop] at aB;exact aB))
 rwa [Dl] at this
def sc(x:List UInt8):List Value:=[.string (bsOf x)]
theorem Fl(x:List UInt8):(sc x).length=1:=rfl
abbrev Ex(B g:Nat)(s:List UInt8)(AN:Option Addr)(nn cn:Nat)(AO:Option Addr)(no co:Nat)(f p:Bool)(w:World):Prop :=
 OwnV 150 5 w B (some ⟨g,0,none⟩) 1 1 [.string (bsOf s),.slice AN nn cn,.slice AO no co,.bool f,.bool p]
theorem X7(B g:Nat)(s:List UInt8)(AN:Option Addr)(nn cn:Nat)(AO:Option Addr)(no co:Nat)(f p:Bool)(b:UInt8)(z:Int)(hz:z=(b.toNat:Int))(w:World)(h:Ex B g s AN nn cn AO no co f p w):
  Calls Tryz.prog 129 #[.pointer (some ⟨g,0,none⟩),.int .u8 z] w (fun e w'=>e=.returned (.bool (takeB b s).isSome)/\w'=match takeB b s with | none=>w | some r=>w.setCell ⟨g,0,none⟩ (.string (bsOf r))):=by
 have m0:w.cell? ⟨g,0,none⟩=some (.string (bsOf s)):=Ah h 0 (by omega);have f0:w.frozen? ⟨g,0,none⟩=false:=Aq h 0;subst hz;clear h;cases s with
 | nil =>
  have aA:(bsOf []).size=0:=rfl;have hq:takeB b []=none:=rfl;rw[hq];go_in;go_wp2;go_ret;exact⟨rfl,rfl⟩
 | cons c r =>
  have aA:(bsOf (c::r)).size=r.length+1:=rfl;have aB:∀ W,(Instr.index 9 (.string (bsOf (c::r))) (.int .i64 0)).run Tryz.prog W=.ok (.int .u8 (c.toNat:Int)) W:=sidx (l:=c::r) (i:=0) rfl;rw[takeB_cons];by_cases hc:c=b
  ·have i1:((c.toNat:Int) != (b.toNat:Int))=false:=by rw[hc];simp
   have aC:(bsOf (c::r)).extract 1 (r.length+1)=bsOf r:=bs_from (c::r) 1 _ rfl;rw[if_pos hc];generalize bsOf (c::r)=sv at m0 aA aB aC;go_in;go_wp2;go_ret;exact⟨rfl,rfl⟩
  have i1:((c.toNat:Int) != (b.toNat:Int))=true:=Bz.2 fun e=>hc (Cz.1 (Int.ofNat.inj e));rw[if_neg hc];go_in;go_wp2;go_ret;exact⟨rfl,rfl⟩
theorem Ui(B g:Nat)(s:List UInt8)(AN:Option Addr)(nn cn:Nat)(AO:Option Addr)(no co:Nat)(f p:Bool)(t:List UInt8)(w:World)(h:Ex B g s AN nn cn AO no co f p w)(hs:s.length<=140737488351232)(ht:t.length<=140737488351232):
  Calls Tryz.prog 130 #[.pointer (some ⟨g,0,none⟩),.string (bsOf t)] w (fun e w'=>e=.returned (.string (bsOf (aheadT (fun c=>t.contains c) s)))/\∃ k,w'=(w.drewN k).setCell ⟨g,0,none⟩ (.string (bsOf (behindT (fun c=>t.contains c) s)))):=by
 have aY:w.cell? ⟨g,0,none⟩=some (.string (bsOf s)):=Ah h 0 (by omega);have bJ:w.frozen? ⟨g,0,none⟩=false:=Aq h 0;have aP:=hid fun i c (h:s[i]? = some c)=>sidx h;have aO:=hid fun i c (h:t[i]? = some c)=>sidx h;have aK:=hid (bs_upto s);obtain⟨n,hn⟩:∃ n,n=s.length:=⟨_,rfl⟩;obtain⟨m,hm⟩:∃ m,m=t.length:=⟨_,rfl⟩;have aM:=hid fun i=>bs_from s i n hn.symm;have aX:(bsOf s).size=n:=by rw[hn];rfl
 have aV:(bsOf t).size=m:=by rw[hm];rfl
 have HN:=hid hn;have HM:=hid hm;have aD:=hid fun i (h1:∀ j,j < i->∀ d,s[j]? = some d->t.contains d=false) (h2:∀ c,s[i]? = some c->t.contains c=true)=>ahead_split (p:=fun c=>t.contains c) h1 h2;rw[<- hn] at hs;rw[<- hm] at ht;generalize aheadT (fun c=>t.contains c) s=R1 at aD |-;generalize behindT (fun c=>t.contains c) s=R2 at aD |-;clear h hn hm;generalize aN:bsOf s=sv at aY aP aK aM aX;have bE:=hid aN;clear aN;generalize bsOf t=tv at aO aV |-;go_in;go_wp2;go_loopw [5,6] (fun v _ wr=>∃ i q:Nat,i<=n/\v=.int .i64 i/\(∀ j,j < i->∀ d,s[j]? = some d->t.contains d=false)/\wr=w.drewN q) (fun v _ _=>n - (intOf v).toNat)
 case atStart=>exact⟨0,0,by omega,rfl,fun j hj=>by omega,rfl⟩
 obtain⟨i,q,hi,rfl,aE,rfl⟩:=hrel;have aF:=hid aE;clear aE;by_cases aZ:i < n
 ·have aG:(i:Int) < (n:Int):=by omega
  obtain⟨c,hc⟩:∃ c,s[i]? = some c:=⟨_,Am (by rw[<- HN.o];exact aZ)⟩;obtain⟨b1,aJ⟩:∃ b,b=c.toNat:=⟨_,rfl⟩;have bH:Hd (∀ W,(Instr.index 9 (.string sv) (.int .i64 (i:Int))).run Tryz.prog W=.ok (.int .u8 (b1:Int)) W):=hid (by rw[aJ];exact aP.o i c hc);have aQ:=hid hc;have aT:=hid aJ;clear hc aJ;go_wp2;go_loopw [6] (fun v wr=>∃ k q:Nat,k<=m/\v=.int .i64 k/\(∀ j,j < k->t[j]?≠some c)/\wr=w.drewN q) (fun v _=>m - (intOf v).toNat)
  case atStart=>exact⟨0,q,by omega,rfl,fun j hj=>by omega,rfl⟩
  obtain⟨k,q,hk,rfl,aE,rfl⟩:=hrel;have aA:=hid aE;clear aE;by_cases bA:k < m
  ·have aH:(k:Int) < (m:Int):=by omega
   obtain⟨d,hd⟩:∃ d,t[k]? = some d:=⟨_,Am (by rw[<- HM.o];exact bA)⟩;have bI:=bH.o;obtain⟨b2,aI⟩:∃ b,b=d.toNat:=⟨_,rfl⟩;have bB:∀ W,(Instr.index 9 (.string tv) (.int .i64 (k:Int))).run Tryz.prog W=.ok (.int .u8 (b2:Int)) W:=by rw[aI];exact aO.o k d hd
   have aR:=hid aI;clear aI;by_cases aC:c=d
   ·have i1:((b1:Int) == (b2:Int))=true:=by rw[aT.o,aR.o,aC];simp
    have aU:=aK.o i;have bC:=aM.o i;have aB:=aD.o i aF.o (fun c' bD=>by
     have e:c'=c:=by have:=aQ.o;rw[bD] at this;injection this
     rw[e,aC];exact List.contains_iff_mem.2 (An hd))
    have S1:=hid aB.1;have S2:=hid aB.2;clear hd aC aB aD aF aA aK aM;have Q1:Hd (bsOf R1=bsOf (s.take i)):=hid (by rw[S1.o]);have Q2:Hd (bsOf R2=bsOf (s.drop i)):=hid (by rw[S2.o]);generalize bsOf (s.take i)=o1 at aU Q1;generalize bsOf (s.drop i)=o2 at bC Q2;go_upto_region 7 with fail;go_quiet (fail);go_wp2;go_ret;exact⟨by rw[Q1.o];rfl,q+nq,by rw[Q2.o]⟩
   have i1:((b1:Int) == (b2:Int))=false:=by
    rw[Ak,aT.o,aR.o];exact fun e=>aC (Cz.1 (Int.ofNat.inj e))
   have aL:Hd (∀ j,j < k+1->t[j]?≠some c):=hid fun j hj=>by
    rcases Bk j k with h5 | h5
    ·exact aA.o j h5
    obtain rfl:j=k:=by omega
    rw[hd];exact fun e=>aC (by injection e with e;exact e.symm)
   clear hd aC aA;go_upto_region 7 with fail;go_quiet (fail);go_wp2;go_roundw
   case rel=>exact⟨k+1,q+nq,by omega,by go_num,aL.o,rfl⟩
   simp[intOf];omega
  have aH:¬ (k:Int) < (m:Int):=by omega
  have aL:Hd (∀ j,j < i+1->∀ d,s[j]? = some d->t.contains d=false):=hid fun j hj d hd=>by
   rcases Bk j i with h5 | h5
   ·exact aF.o j h5 d hd
   obtain rfl:j=i:=by omega
   have e:d=c:=by have:=aQ.o;rw[hd] at this;injection this
   rw[e];cases hq:t.contains c with
   | false=>rfl
   | true =>
    obtain⟨a,ha⟩:=Bl (List.contains_iff_mem.1 hq);have h6:=(Af.1 ha).1;have h7:=HM.o;exact absurd ha (aA.o a (by omega))
  go_wp2;go_roundw
  case rel=>exact⟨i+1,q,by omega,by go_num,aL.o,rfl⟩
  simp[intOf];omega
 have aG:¬ (i:Int) < (n:Int):=by omega
 have aB:=aD.o n (fun j hj=>aF.o j (by omega)) (fun c hc=>by
  rw[Bw (by rw[<- HN.o];exact Ag _)] at hc;cases hc)
 have S1:=hid aB.1;have S2:=hid aB.2;have bG:Hd (bsOf (s.take n)=sv):=hid (by rw[Bd (by rw[<- HN.o];exact Ag _)];exact bE.o);have bF:Hd (bsOf (s.drop n)=⟨#[]⟩):=hid (by rw[Cq (by rw[<- HN.o];exact Ag _)];rfl);clear aB aD aF;go_wp2;go_ret;exact⟨by rw[S1.o,bG.o];rfl,q,by rw[S2.o,bF.o]⟩
