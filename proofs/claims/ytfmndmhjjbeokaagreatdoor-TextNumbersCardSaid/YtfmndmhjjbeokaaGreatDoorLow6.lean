import Derived.Test.YtfmndmhjjbeokaaGreatDoorLow5
import Derived.Laws.Concat
set_option maxHeartbeats 1000000
set_option maxRecDepth 100000
set_option linter.unusedSimpArgs false
set_option linter.unusedVariables false
namespace Go.Proofs.YtfmndmhjjbeokaaGreatDoor
open Go.RowKit Tab
namespace Txt
theorem bs_size(l:List UInt8):(bsOf l).size=l.length:=rfl
theorem bs_app(l m:List UInt8):bsOf l++bsOf m=bsOf (l++m):=by
 apply ByteArray.ext;simp[bsOf]
theorem bs_enc{d:Nat}(h:d < 10):Utf8.encode ((48+d:Nat):Int)=bsOf [dg d]:=by
 rcases(by omega:d=0\/d=1\/d=2\/d=3\/d=4\/d=5\/d=6\/d=7\/d=8\/d=9) with rfl | rfl | rfl | rfl | rfl | rfl | rfl | rfl | rfl | rfl <;> kernel_rfl
theorem bs_enc'{d:Nat}(h:d < 10):Utf8.encode (48+(d:Int))=bsOf [dg d]:=by
 rw[show (48:Int)+(d:Int)=((48+d:Nat):Int) by omega];exact bs_enc h
theorem sadd(l m:List UInt8)(h:l.length+m.length<=9223372036854775807):∀ W,(Op.stringOp .add (bsOf l) (bsOf m)).run Tryz.prog W=.ok (.string (bsOf (l++m))) W:=fun W=>by
 rw[<- bs_app]
 exact run_string_add_sum W _ _ h
theorem addT{a b:List UInt8}{x y:ByteArray}(hx:x=bsOf a)(hy:y=bsOf b)(m n k:Nat)(ha:a.length<=m)(hb:b.length<=n)(hk:m+n=k)(hl:k<=4611686018427387904):∃ t,t=a++b/\t.length<=k/\∀ W,(Op.stringOp .add x y).run Tryz.prog W=.ok (.string (bsOf t)) W :=
 ⟨_,rfl,by rw[Aa];omega,by rw[hx,hy];exact sadd a b (by omega)⟩
theorem bs_ix{l:List UInt8}{i:Nat}{c:UInt8}(h:l[i]? = some c):∃ hi:i < (bsOf l).size,(bsOf l)[i]=c:=by
 obtain⟨h1,h2⟩:=Af.1 h;refine⟨h1,?_⟩;rw[<- h2];simp[bsOf,ByteArray.getElem_eq_getElem_data]
theorem sidx{l:List UInt8}{i:Nat}{c:UInt8}(h:l[i]? = some c):∀ W,(Instr.index 9 (.string (bsOf l)) (.int .i64 (i:Int))).run Tryz.prog W=.ok (.int .u8 (c.toNat:Int)) W:=fun W=>by
 obtain⟨hi,e⟩:=bs_ix h
 rw[run_index_string (h:=Tryz.underlying9)]
 simp[hi,e]
end Txt
open Txt
def Qaq(v:Value)(w:World)(e:Ending)(w':World):Prop:=e=.returned v/\w=w'
theorem Gp:∀(n:Nat),n < 9223372036854775808->∀(w:World),Calls Tryz.prog 23 #[.int .i64 (n:Int)] w (Qaq (.string (bsOf (numB n))) w):=by
 intro n;induction n using Nat.strongRecOn with
 | ind n ih =>
  intro hn w;rcases Bk n 10 with h | h
  ·have h1:¬ (10:Int)<=(n:Int):=by omega
   go_in;go_wp2;go_ret;exact⟨by show Ending.returned (.string (Utf8.encode (48+(n:Int))))=_;rw[bs_enc' h,numB_low h],rfl⟩
  have IH:=hid (ih (n / 10) (by omega) (by omega));have h1:(10:Int)<=(n:Int):=by omega
  obtain⟨q,hq⟩:∃ q,q=n / 10:=⟨_,rfl⟩;rw[<- hq] at IH;have e1:(n:Int) / 10=(q:Int):=by omega
  have e0:(n:Int).tdiv 10=(q:Int):=by rw[Int.tdiv_eq_ediv_of_nonneg (by omega)];exact e1
  have e4:IntKind.i64.wrap (q:Int)=(q:Int):=by rw[Cm];omega
  have e2:(n:Int).tmod 10=((n % 10:Nat):Int):=by rw[Ce (by omega)];omega
  have e3:(n:Int) % 10=((n % 10:Nat):Int):=by omega
  obtain⟨r,hr⟩:∃ r,r=n % 10:=⟨_,rfl⟩;rw[<- hr] at e2 e3;have HQ:=hid hq;have HR:=hid hr;clear hq hr ih h;go_in;go_wp2_with fail;refine(IH.o _).mono ?_;rintro e w5⟨rfl,rfl⟩;clear IH;have aD:r < 10:=by rw[HR.o];omega
  have aA:IntKind.i64.wrap (48+(r:Int))=48+(r:Int):=by rw[Cm];omega
  have aC:(bsOf (numB q)).size<=20:=by
   have:=num_len_le 19 q (by have:=HQ.o;omega);rw[bs_size];omega
  have aB:=sadd (numB q) [dg r] (by have:=aC;rw[bs_size] at this;show _+1<=_;omega);have aE:=bs_enc' aD;generalize bsOf (numB q)=sq at aB;clear e0 e1 e4 e3 aA aC;go_wp2;go_ret;exact⟨by show Ending.returned (.string (bsOf (numB q++[dg r])))=_;rw[numB_high (n:=n) (by omega),HQ.o,HR.o],rfl⟩
theorem Pr{m:Nat}{l:List UInt8}(h:valL m 0 l=none):valF m l=(0,false):=by
 unfold valF;rw[h]
theorem Pp{m a:Nat}{l:List UInt8}(h:valL m 0 l=some a):valF m l=(a,decide (0 < l.length) && (decide (a<=m) && (decide (l.length=1) || !decide (l.head? = some 48)))):=by
 unfold valF;rw[h]
theorem Kk(m:Nat)(hm:m<=1099511627775)(l:List UInt8)(w:World)(hl:l.length<=140737488351232):
  Calls Tryz.prog 100 #[.string (bsOf l),.int .i64 (m:Int)] w (Qui (.tuple #[.int .i64 ((valF m l).1:Int),.bool (valF m l).2]) w):=by
 have aG:=hid fun i c (h:l[i]? = some c)=>sidx h;have aC:=hid fun h=>Pr (m:=m) (l:=l) h;have aE:=hid fun a h=>Pp (m:=m) (a:=a) (l:=l) h;obtain⟨n,hn⟩:∃ n,n=l.length:=⟨_,rfl⟩;have aU:(bsOf l).size=n:=by rw[hn];rfl
 have HN:=hid hn;rw[<- hn] at hl;clear hn;generalize bsOf l=sv at aG aU |-;generalize hV:valF m l=V at aC aE |-;clear hV;obtain⟨R,hR⟩:∃ R,R=valL m 0 l:=⟨_,rfl⟩;rw[<- hR] at aC aE;have HR:=hid hR;clear hR;go_in;go_wp2;go_loopw [6,7] (fun p q wr=>∃ i a:Nat,i<=n/\q=.int .i64 i/\p=.int .i64 a/\valL m a (l.drop i)=R/\a<=m*10+9/\w=wr) (fun _ q _=>n - (intOf q).toNat)
 case atStart=>exact⟨0,0,by omega,rfl,rfl,HR.o.symm,by omega,rfl⟩
 obtain⟨i,a,hi,rfl,rfl,hv,ha,rfl⟩:=hrel;have aH:=hid hv;clear hv HR;by_cases aX:i < n
 ·have aL:(i:Int) < (n:Int):=by omega
  obtain⟨c,hc⟩:∃ c,l[i]? = some c:=⟨_,Am (by rw[<- HN.o];exact aX)⟩;have aM:=aG.o i c hc;have aQ:l.drop i=c::l.drop (i+1):=List.drop_eq_getElem?_toList_append.trans (by rw[hc];rfl);have aK:=aH.o;rw[aQ,valL_cons] at aK;have aB:=hid aK;clear aK aQ hc aH aG;have aD:Hd (isD c=(decide (48<=c.toNat) && decide (c.toNat<=57))):=hid rfl;obtain⟨b,hb⟩:∃ b,b=c.toNat:=⟨_,rfl⟩;rw[<- hb] at aM aB aD;clear hb;generalize isD c=d at aB aD;rcases(by omega:b < 48\/57 < b\/(48<=b/\b<=57/\m < a)\/(48<=b/\b<=57/\a<=m)) with h | h | h | h
  ·have i1:(b:Int) < 48:=by omega
   have hz:R=none:=by rw[<- aB.o,aD.o,Ac (by omega)];rfl
   have HV:=hid (aC.o hz);clear aC aE aB aD h hz;go_wp2;go_ret2;exact⟨by rw[HV.o];rfl,0,rfl⟩
  ·have i1:¬ (b:Int) < 48:=by omega
   have i2:(57:Int) < (b:Int):=by omega
   have hz:R=none:=by rw[<- aB.o,aD.o,Ac (show ¬ b<=57 by omega),Bool.and_false];rfl
   have HV:=hid (aC.o hz);clear aC aE aB aD h hz;go_wp2;go_ret2;exact⟨by rw[HV.o];rfl,0,rfl⟩
  ·have i1:¬ (b:Int) < 48:=by omega
   have i2:¬ (57:Int) < (b:Int):=by omega
   have i3:(m:Int) < (a:Int):=by omega
   have hz:R=none:=by rw[<- aB.o,Ac (show ¬ a<=m by omega),Bool.and_false];rfl
   have HV:=hid (aC.o hz);clear aC aE aB aD h hz;go_wp2;go_ret2;exact⟨by rw[HV.o];rfl,0,rfl⟩
  have i1:¬ (b:Int) < 48:=by omega
  have i2:¬ (57:Int) < (b:Int):=by omega
  have i3:¬ (m:Int) < (a:Int):=by omega
  have hz:valL m (a*10+(b - 48)) (l.drop (i+1))=R:=by
   have:=aB.o;rw[aD.o,Ae (show 48<=b by omega),Ae (show b<=57 by omega),Ae (show a<=m by omega)] at this;exact this
  obtain⟨k,hk⟩:∃ k,k=b - 48:=⟨_,rfl⟩;obtain⟨p,hp⟩:∃ p,p=a*10:=⟨_,rfl⟩;obtain⟨a2,aR⟩:∃ a2,a2=p+k:=⟨_,rfl⟩;rw[<- hp,<- hk,<- aR] at hz;have e1:(b:Int) - 48=(k:Int):=by omega
  have e2:IntKind.u8.wrap (k:Int)=(k:Int):=by rw[IntKind.wrap_u8];omega
  have e3:(a:Int)*10=(p:Int):=by omega
  have e4:IntKind.i64.wrap (p:Int)=(p:Int):=by rw[Cm];omega
  have e5:(p:Int)+(k:Int)=(a2:Int):=by omega
  have e6:IntKind.i64.wrap (a2:Int)=(a2:Int):=by rw[Cm];omega
  have e7:IntKind.i64.wrap (k:Int)=(k:Int):=by rw[Cm];omega
  have HZ:=hid hz;have HA:Hd (a2<=m*10+9):=hid (by omega);clear aC aE aB aD h hz hk hp aR;go_wp2;go_roundw
  case rel=>exact⟨i+1,a2,by omega,by go_num,by first | rfl | go_num,HZ.o,HA.o,by first | rfl | trivial⟩
  simp[intOf];omega
 have aL:¬ (i:Int) < (n:Int):=by omega
 have hz:R=some a:=by rw[<- aH.o,Cq (by rw[<- HN.o];omega)];rfl
 have HV:=hid (aE.o a hz);clear aC aE aH hz;by_cases aV:n=0
 ·have k1:¬ (0:Int) < (n:Int):=by omega
  have k2:decide (0 < n)=false:=Ac (by omega);have k3:¬ 0 < n:=by omega
  have aA:Hd (V=(a,false)):=hid (by rw[HV.o,<- HN.o,k2];rfl);clear HV aV aG;go_wp2_with fail;go_quiet (fail);go_wp2;go_ret2;exact⟨by rw[aA.o];rfl,_,rfl⟩
 obtain⟨c,hc⟩:∃ c,l[0]? = some c:=⟨_,Am (by rw[<- HN.o];omega)⟩;have aM:∀ W,(Instr.index 9 (.string sv) (.int .i64 0)).run Tryz.prog W=.ok (.int .u8 (c.toNat:Int)) W:=aG.o 0 c hc;have hh:l.head? = some c:=by rw[List.head?_eq_getElem?];exact hc
 obtain⟨b,hb⟩:∃ b,b=c.toNat:=⟨_,rfl⟩;have aN:(c=48)↔b=48:=by
  rw[hb];exact⟨fun e=>by rw[e];rfl,fun e=>Cz.1 e⟩
 rw[<- hb] at aM;have aA:Hd (V=(a,decide (a<=m) && (decide (n=1) || !decide (b=48)))):=hid (by
  rw[HV.o,<- HN.o,hh,Ae (show 0 < n by omega),Bool.true_and];have e:decide (some c=some (48:UInt8))=decide (b=48):=by
   rw[decide_eq_decide];exact⟨fun e=>aN.1 (C7 e),fun e=>by rw[aN.2 e]⟩
  rw[e])
 have k1:(0:Int) < (n:Int):=by omega
 have k2:0 < n:=by omega
 have k3:decide (0 < n)=true:=Ae k2;clear HV aG hh hc hb aN;rcases(by omega:m < a\/(a<=m/\n=1)\/(a<=m/\n≠1/\b=48)\/(a<=m/\n≠1/\b≠48)) with h | h | h | h
 ·have aF:Hd (V=(a,false)):=hid (by rw[aA.o,Ac (by omega)];rfl);have i1:¬ (a:Int)<=(m:Int):=by omega
  have aJ:decide (a<=m)=false:=Ac (by omega);have aI:decide ((a:Int)<=(m:Int))=false:=Ac (by omega);clear aA h;go_wp2_with fail;go_quiet (fail);go_wp2;go_ret2;exact⟨by rw[aF.o];rfl,_,rfl⟩
 ·have aF:Hd (V=(a,true)):=hid (by rw[aA.o,Ae h.1,Ae h.2];rfl);have i1:(a:Int)<=(m:Int):=by omega
  have aJ:decide (a<=m)=true:=Ae h.1;have aI:decide ((a:Int)<=(m:Int))=true:=Ae (by omega);have i2:((n:Int) == 1)=true:=by simp;omega
  have aP:(n == 1)=true:=by simp;omega
  have aO:decide (n=1)=true:=Ae h.2;clear aA h;go_wp2_with fail;go_quiet (fail);go_wp2;go_ret2;exact⟨by rw[aF.o];rfl,_,rfl⟩
 ·have aF:Hd (V=(a,false)):=hid (by rw[aA.o,Ae h.1,Ac h.2.1,Ae h.2.2];rfl);have i1:(a:Int)<=(m:Int):=by omega
  have aJ:decide (a<=m)=true:=Ae h.1;have aI:decide ((a:Int)<=(m:Int))=true:=Ae (by omega);have i2:((n:Int) == 1)=false:=by simp;omega
  have aP:(n == 1)=false:=by simp;omega
  have aO:decide (n=1)=false:=Ac h.2.1;have aT:¬ n=1:=h.2.1;have i3:((b:Int) != 48)=false:=by simp;omega
  clear aA h;go_wp2_with fail;go_quiet (fail);go_wp2;go_ret2;exact⟨by rw[aF.o];rfl,_,rfl⟩
 have aF:Hd (V=(a,true)):=hid (by rw[aA.o,Ae h.1,Ac h.2.1,Ac h.2.2];rfl);have i1:(a:Int)<=(m:Int):=by omega
 have aJ:decide (a<=m)=true:=Ae h.1;have aI:decide ((a:Int)<=(m:Int))=true:=Ae (by omega);have i2:((n:Int) == 1)=false:=by simp;omega
 have aP:(n == 1)=false:=by simp;omega
 have aO:decide (n=1)=false:=Ac h.2.1;have aT:¬ n=1:=h.2.1;have i3:((b:Int) != 48)=true:=Bz.2 (by omega);clear aA h;go_wp2_with fail;go_quiet (fail);go_wp2;go_ret2;exact⟨by rw[aF.o];rfl,_,rfl⟩
end Go.Proofs.YtfmndmhjjbeokaaGreatDoor
namespace Go.Proofs.YtfmndmhjjbeokaaGreatDoor
namespace Txt
open Tab
def lim40:Nat:=1099511627775
def aheadT(p:UInt8->Bool)(s:List UInt8):List UInt8:=s.takeWhile fun c=>!p c
def behindT(p:UInt8->Bool)(s:List UInt8):List UInt8:=s.dropWhile fun c=>!p c
def st3(c:UInt8):Bool:=decide (c=44) || (decide (c=40) || decide (c=41))
def st4(c:UInt8):Bool:=decide (c=58) || st3 c
def takeB(b:UInt8):List UInt8->Option (List UInt8)
 | []=>none
 | c::r=>if c=b then some r else none
theorem takeB_cons(b c:UInt8)(r:List UInt8):takeB b (c::r)=if c=b then some r else none:=rfl
theorem takeB_self(b:UInt8)(r:List UInt8):takeB b (b::r)=some r:=by
 rw[takeB_cons,if_pos rfl]
theorem takeB_ne{b c:UInt8}(h:c≠b)(r:List UInt8):takeB b (c::r)=none:=by
 rw[takeB_cons,if_neg h]
theorem takeB_some{b:UInt8}{s r:List UInt8}(h:takeB b s=some r):s=b::r:=by
 cases s with
 | nil=>cases h
 | cons c t =>
  rw[takeB_cons] at h;by_cases e:c=b
  ·rw[if_pos e] at h;injection h with h;rw[e,h]
  rw[if_neg e] at h;cases h
theorem ahead_at(p:UInt8->Bool):∀ {x t:List UInt8},(∀ c∈x,p c=false)->(∀ c,t.head? = some c->p c=true)->aheadT p (x++t)=x/\behindT p (x++t)=t
 | [],[],_,_=>⟨rfl,rfl⟩
 | [],c::t,_,ht=>by
  have:=ht c rfl
  unfold aheadT behindT
  simp[this]
 | c::x,t,hx,ht=>by
  have h1:=hx c (by simp)
  have h2:=ahead_at p (x:=x) (t:=t) (fun d hd=>hx d (by simp[hd])) ht
  unfold aheadT behindT at h2 |-
  simp[h1,h2.1,h2.2]
theorem behind_le(p:UInt8->Bool)(s:List UInt8):(behindT p s).length<=s.length:=by
 unfold behindT;exact(List.dropWhile_suffix _).length_le
def numT(s:List UInt8):Option (Nat×List UInt8):=if (valF lim40 (aheadT st3 s)).2=true then some ((valF lim40 (aheadT st3 s)).1,behindT st3 s) else none
def winT(look:List UInt8->Int)(s:List UInt8):Option (List Nd×List UInt8) :=
 if look (aheadT st4 s) < 0 then none else match takeB 58 (behindT st4 s) with
 | none=>none
 | some r=>(numT r).map fun x=>([⟨1,look (aheadT st4 s),x.1⟩],x.2)
def kidsR(f:Nat->List UInt8->Option (List Nd×List UInt8)):Nat->Nat->List UInt8->Option (List Nd×Nat×List UInt8)
 | 0,_,_=>none
 | k+1,rm,s=>match takeB 44 s with
  | none=>some ([],0,s)
  | some s1=>match f rm s1 with
   | none=>none
   | some x=>match kidsR f k (rm - x.1.length) x.2 with
    | none=>none
    | some y=>some (x.1++y.1,y.2.1+1,y.2.2)
def seqT(f:Nat->List UInt8->Option (List Nd×List UInt8))(rm:Nat)(s:List UInt8):Option (List Nd×List UInt8):=match takeB 40 s with
 | none=>none
 | some s1=>match f rm s1 with
  | none=>none
  | some x=>match kidsR f (x.2.length+1) (rm - x.1.length) x.2 with
   | none=>none
   | some y=>(takeB 41 y.2.2).map fun s4=>(⟨3,0,((y.2.1+1:Nat):Int)⟩::(x.1++y.1),s4)
def repT(f:Nat->List UInt8->Option (List Nd×List UInt8))(rm:Nat)(s:List UInt8):Option (List Nd×List UInt8):=match numT s with
 | none=>none
 | some v=>match takeB 40 v.2 with
  | none=>none
  | some s2=>match f rm s2 with
   | none=>none
   | some x=>(takeB 41 x.2).map fun s4=>(⟨4,0,v.1⟩::x.1,s4)
def stepR(look:List UInt8->Int)(f:Nat->List UInt8->Option (List Nd×List UInt8)):Nat->List UInt8->Option (List Nd×List UInt8)
 | 0,_=>none
 | _+1,[]=>none
 | rm+1,c::s=>if c=119 then winT look s else if c=105 then (numT s).map fun x=>([⟨2,0,x.1⟩],x.2) else if c=115 then seqT f rm s else if c=114 then repT f rm s else none
theorem stepR_cons(look:List UInt8->Int)(f:Nat->List UInt8->Option (List Nd×List UInt8))(rm:Nat)(c:UInt8)(s:List UInt8):stepR look f (rm+1) (c::s)=if c=119 then winT look s else if c=105 then (numT s).map fun x=>([⟨2,0,x.1⟩],x.2) else if c=115 then seqT f rm s else if c=114 then repT f rm s else none:=rfl
theorem kidsR_succ(f:Nat->List UInt8->Option (List Nd×List UInt8))(k rm:Nat)(s:List UInt8):kidsR f (k+1) rm s=match takeB 44 s with
  | none=>some ([],0,s)
  | some s1=>match f rm s1 with
   | none=>none
   | some x=>match kidsR f k (rm - x.1.length) x.2 with
    | none=>none
    | some y=>some (x.1++y.1,y.2.1+1,y.2.2):=rfl
def nodeR(look:List UInt8->Int):Nat->Nat->List UInt8->Option (List Nd×List UInt8)
 | 0=>fun _ _=>none
 | lv+1=>stepR look (nodeR look lv)
def tableR(look:List UInt8->Int)(s:List UInt8):Option (List Nd):=match nodeR look 16 128 s with
 | none=>none
 | some x=>if x.2=[] then some x.1 else none
def txN(nm:Int->List UInt8)(x:Nd)(k:List UInt8):List UInt8 :=
 if x.k=1 then 119::(nm x.p++58::numB x.n.toNat)
 else if x.k=2 then 105::numB x.n.toNat
 else if x.k=3 then 115::40::(k++[41])
 else 114::(numB x.n.toNat++40::(k++[41]))
def txX(nm:Int->List UInt8):F->Bool->List UInt8
 | .nil,_=>[]
 | .cons x k r,b=>(if b=true then [44] else [])++(txN nm x (txX nm k false)++txX nm r true)
theorem txX_comma(nm:Int->List UInt8)(x:Nd)(k r:F):txX nm (.cons x k r) true=44::txX nm (.cons x k r) false:=rfl
theorem txX_head(nm:Int->List UInt8)(r:F)(t:List UInt8)(ht:∀ c,t.head? = some c->st3 c=true):∀ c,(txX nm r true++t).head? = some c->st3 c=true:=by
 cases r with
 | nil=>exact ht
 | cons x k r =>
  intro c hc;rw[txX_comma] at hc;injection hc with hc;subst hc;rfl
theorem isD_st3{c:UInt8}(h:isD c=true):st3 c=false:=by
 unfold isD at h;simp only[Au,Av] at h;unfold st3;have h1:c≠44:=fun e=>by subst e;exact absurd h.1 (by decide)
 have h2:c≠40:=fun e=>by subst e;exact absurd h.1 (by decide)
 have h3:c≠41:=fun e=>by subst e;exact absurd h.1 (by decide)
 rw[Ac h1,Ac h2,Ac h3];rfl
theorem numT_num{n:Nat}(hn:n<=lim40){t:List UInt8}(ht:∀ c,t.head? = some c->st3 c=true):numT (numB n++t)=some (n,t):=by
 obtain⟨h1,h2⟩:=ahead_at st3 (x:=numB n) (t:=t) (fun c hc=>isD_st3 (num_all n c hc)) ht;unfold numT;rw[h1,h2,valF_num hn];rfl
def Say(nm:Int->List UInt8)(look:List UInt8->Int)(x:Nd):Prop:=x.n.toNat<=lim40/\(x.k=1->look (nm x.p)=x.p/\∀ c∈nm x.p,st4 c=false)
theorem nodeR_txN{nm:Int->List UInt8}{look:List UInt8->Int}{lv rm:Nat}{x:Nd}{k:F}{T:List UInt8}(hf:fine x=true)(hc:k.cnt=kn x)(hs:Say nm look x)(hT:∀ c,T.head? = some c->st3 c=true)
  (hk:∀(x':Nd) (k' r':F),k=.cons x' k' r'->nodeR look lv rm (txX nm k false++41::T)=some (x'::k'.flat,txX nm r' true++41::T)/\∀ fuel,(txX nm r' true++41::T).length < fuel->kidsR (nodeR look lv) fuel (rm - (1+k'.sz)) (txX nm r' true++41::T)=some (r'.flat,r'.cnt,41::T)) :
  nodeR look (lv+1) (rm+1) (txN nm x (txX nm k false)++T)=some (x::k.flat,T):=by
 have h1:=fine_one hf;have hx:x=⟨x.k,x.p,x.n⟩:=rfl;have hn:((x.n.toNat:Nat):Int)=x.n:=by omega
 unfold fine at hf;simp only[Au,Av] at hf;obtain⟨_,h2⟩:=hf;show stepR look (nodeR look lv) (rm+1) _=_;unfold txN;split at h2
 ·rename_i e;rw[if_pos e];have h2:=Dk h2;obtain⟨h3,h4⟩:=hs.2 e;have aC:k=.nil:=F.cnt_zero (by rw[hc];unfold kn;rw[if_neg (by omega),if_neg (by omega)]);subst aC;obtain⟨a1,a2⟩:=ahead_at st4 (x:=nm x.p) (t:=58::(numB x.n.toNat++T)) h4 (fun c hc=>by injection hc with hc;subst hc;rfl);have e2:((119:UInt8)::(nm x.p++58::numB x.n.toNat))++T=119::(nm x.p++58::(numB x.n.toNat++T)):=by simp
  rw[e2];rw[stepR_cons,if_pos rfl];unfold winT;rw[a1,a2,h3,if_neg (by omega),takeB_self];show Option.map _ (numT (numB x.n.toNat++T))=_;rw[numT_num hs.1 hT];show some ([⟨1,x.p,((x.n.toNat:Nat):Int)⟩],T)=some ([x],T);rw[hn,<- e]
 rename_i e;rw[if_neg e];split at h2
 ·rename_i e2;have hp:=Dk h2;rcases e2 with e2 | e2
  ·rw[if_pos e2];have aC:k=.nil:=F.cnt_zero (by rw[hc];unfold kn;rw[if_neg (by omega),if_neg (by omega)]);subst aC;show stepR look (nodeR look lv) (rm+1) (105::(numB x.n.toNat++T))=_;rw[stepR_cons,if_neg (by decide),if_pos rfl,numT_num hs.1 hT];show some ([⟨2,0,((x.n.toNat:Nat):Int)⟩],T)=some ([x],T);rw[hn,<- e2,<- hp]
  rw[if_neg (by omega),if_neg (by omega)];have aA:k.cnt=1:=by rw[hc];unfold kn;rw[if_neg (by omega),if_pos e2]
  have e3:((114:UInt8)::(numB x.n.toNat++40::(txX nm k false++[41])))++T=114::(numB x.n.toNat++40::(txX nm k false++41::T)):=by simp
  rw[e3];rw[stepR_cons,if_neg (by decide),if_neg (by decide),if_neg (by decide),if_pos rfl];unfold repT;rw[numT_num hs.1 (fun c hc=>by injection hc with hc;subst hc;rfl)];show (match takeB 40 (40::(txX nm k false++41::T)) with | none=>none | some s2=>_)=_;rw[takeB_self];cases aB:k with
  | nil=>rw[aB] at aA;cases aA
  | cons x' k' r' =>
   have hr:r'=.nil:=F.cnt_zero (by rw[aB] at aA;have:r'.cnt+1=1:=aA;omega);have h5:=(hk x' k' r' aB).1;rw[aB] at h5;rw[hr] at h5 |-;show (match nodeR look lv rm (txX nm (.cons x' k' .nil) false++41::T) with | none=>none | some aD=>_)=_;rw[h5];show Option.map _ (takeB 41 (41::T))=_;rw[takeB_self];show some (⟨4,0,((x.n.toNat:Nat):Int)⟩::x'::k'.flat,T)=some (x::(x'::(k'.flat++[])),T);rw[hn,<- e2,<- hp,Az]
 split at h2
 ·rename_i e2 e3;have h2:=Dk h2;rw[if_neg (by omega),if_pos e3];have aA:k.cnt=x.n.toNat:=by rw[hc];unfold kn;rw[if_pos e3]
  have e4:((115:UInt8)::40::(txX nm k false++[41]))++T=115::40::(txX nm k false++41::T):=by simp
  rw[e4];rw[stepR_cons,if_neg (by decide),if_neg (by decide),if_pos rfl];unfold seqT;rw[takeB_self];cases aB:k with
  | nil=>rw[aB] at aA;have:0=x.n.toNat:=aA;omega
  | cons x' k' r' =>
   obtain⟨h5,h6⟩:=hk x' k' r' aB;rw[aB] at h5 aA;show (match nodeR look lv rm (txX nm (.cons x' k' r') false++41::T) with | none=>none | some aD=>_)=_;rw[h5];show (match kidsR (nodeR look lv) ((txX nm r' true++41::T).length+1) (rm - (x'::k'.flat).length) (txX nm r' true++41::T) with | none=>none | some y=>_)=_;rw[Ad,F.flat_length,Nat.add_comm k'.sz 1,h6 _ (Ca _)];show Option.map _ (takeB 41 (41::T))=_;rw[takeB_self];show some (⟨3,0,((r'.cnt+1:Nat):Int)⟩::((x'::k'.flat)++r'.flat),T)=some (x::(x'::(k'.flat++r'.flat)),T);have e5:r'.cnt+1=x.n.toNat:=aA;rw[e5,hn,<- e3,<- h2.1];rfl
 cases h2
theorem txX_read(nm:Int->List UInt8)(look:List UInt8->Int):∀(f:F),f.ok->(∀ x∈f.flat,Say nm look x)->∀(lv rm:Nat) (t:List UInt8),f.dep<=lv->f.sz<=rm->takeB 44 t=none->(∀ c,t.head? = some c->st3 c=true)->
  ∀(x:Nd) (k r:F),f=.cons x k r->nodeR look lv rm (txX nm f false++t)=some (x::k.flat,txX nm r true++t)/\∀ fuel,(txX nm r true++t).length < fuel->kidsR (nodeR look lv) fuel (rm - (1+k.sz)) (txX nm r true++t)=some (r.flat,r.cnt,t):=by
 intro f;induction f with
 | nil=>intro _ _ lv rm t _ _ _ _ x k r h;cases h
 | cons x0 k0 r0 aG aF =>
  intro aI aB lv rm t hd aH aE ht x k r h;injection h with e1 e2 e3;subst e1 e2 e3;obtain⟨o1,o2,o3,o4⟩:=aI;have hT:=txX_head nm r0 t ht;simp only[F.dep] at hd;simp only[F.sz] at aH;obtain⟨aA,rfl⟩:∃ a,lv=a+1:=⟨lv - 1,by omega⟩;obtain⟨aC,rfl⟩:∃ a,rm=a+1:=⟨rm - 1,by omega⟩;constructor
  ·show nodeR look (aA+1) (aC+1) (([]++(txN nm x0 (txX nm k0 false)++txX nm r0 true))++t)=_;rw[Cw,Ar];exact nodeR_txN o1 o2 (aB x0 (by simp[F.flat])) hT fun x' k' r' hk=>aG o3 (fun y hy=>aB y (by simp[F.flat,hy])) aA aC (41::(txX nm r0 true++t)) (by omega) (by omega) (takeB_ne (by decide) _) (fun c hc=>by injection hc with hc;subst hc;rfl) x' k' r' hk
  intro fuel aD;obtain⟨m,rfl⟩:∃ a,fuel=a+1:=⟨fuel - 1,by omega⟩;cases hr:r0 with
  | nil =>
   show kidsR (nodeR look (aA+1)) (m+1) _ t=_;rw[kidsR_succ,aE];rfl
  | cons x2 k2 r2 =>
   rw[hr] at aD;have h5:=aF o4 (fun y hy=>aB y (by simp[F.flat,hy])) (aA+1) (aC+1 - (1+k0.sz)) t (by omega) (by omega) aE ht x2 k2 r2 hr;rw[hr] at h5;rw[txX_comma] at aD |-;show kidsR (nodeR look (aA+1)) (m+1) _ (44::(txX nm (.cons x2 k2 r2) false++t))=_;rw[kidsR_succ,takeB_self];show (match nodeR look (aA+1) (aC+1 - (1+k0.sz)) (txX nm (.cons x2 k2 r2) false++t) with | none=>none | some aJ=>_)=_;rw[h5.1];show (match kidsR (nodeR look (aA+1)) m (aC+1 - (1+k0.sz) - (x2::k2.flat).length) (txX nm r2 true++t) with | none=>none | some y=>_)=_;rw[Ad,F.flat_length,Nat.add_comm k2.sz 1,h5.2 m (by
    have e:txX nm (.cons x2 k2 r2) false=txN nm x2 (txX nm k2 false)++txX nm r2 true:=rfl;rw[e] at aD;simp only[Bo,Ar,Ad,Aa] at aD |-;omega)]
   rfl
theorem tableR_tx{nm:Int->List UInt8}{look:List UInt8->Int}{x:Nd}{k:F}(aA:(F.cons x k .nil).ok)(hs:∀ y∈(F.cons x k .nil).flat,Say nm look y)(hd:(F.cons x k .nil).dep<=16)(hz:(F.cons x k .nil).sz<=128):
  tableR look (txX nm (.cons x k .nil) false)=some (F.cons x k .nil).flat:=by
 have h:=(txX_read nm look _ aA hs 16 128 [] hd hz rfl (fun c hc=>by cases hc) x k .nil rfl).1;rw[Az] at h;unfold tableR;rw[h];show (if ([]:List UInt8)=[] then some (x::k.flat) else none)=some (x::(k.flat++[]));rw[if_pos rfl,Az]
end Txt
namespace Tab
def War(m:Nat->Nat->Bool):Nat->Nat->Nat->Bool
 | 0,a,b=>m a b
 | k+1,a,b=>War m k a b || (War m k a k && War m k k b)
structure Pt where
 sched:Bool
 stop:Bool
structure Ch where
 from_:Int
 to_:Int
 queue:Bool
end Tab
namespace Tab
inductive Rch (S:Nat->List Nat) (F:List Nat):Nat->Prop
 | base {a:Nat}:a∈F->Rch S F a
 | step {a b:Nat}:Rch S F b->a∈S b->Rch S F a
def put1{α:Type}(f:Nat->α)(i:Nat)(v:α):Nat->α:=fun j=>if j=i then v else f j
theorem put1_same{α:Type}(f:Nat->α)(i:Nat)(v:α):put1 f i v i=v:=if_pos rfl
theorem put1_other{α:Type}{f:Nat->α}{i j:Nat}{v:α}(h:j≠i):put1 f i v j=f j:=if_neg h
def un:Nat->(Nat->Bool)->Nat
 | 0,_=>0
 | n+1,M=>un n M+if M n=true then 0 else 1
structure Cov(n:Nat)(S:Nat->List Nat)(F:List Nat)(M:Nat->Bool)(T:List (List Nat)):Prop where
 first:∀ x∈F,M x=true\/∃ L∈T,x∈L
 next:∀ b,b < n->M b=true->∀ y∈S b,M y=true\/∃ L∈T,y∈L
 snd:∀ a,M a=true->Rch S F a
 todo:∀ L∈T,∀ x∈L,x < n/\Rch S F x
section
variable {n:Nat} {S:Nat->List Nat} {F:List Nat} {M:Nat->Bool} {T:List (List Nat)}
