import Derived.Test.YtfmndmhjjbeokaaGreatDoorLow2
import Derived.Laws.MakeOwn
import Derived.BigQuiet
import Derived.Deep.QuietTactic
import Derived.ProofKit
import Derived.OpenShut
import Derived.ChangeOld
import Derived.SizedLaws
import Derived.Deep.CondSized
import Derived.JoinedCond
import Derived.Deep.Strs
set_option maxHeartbeats 400000
set_option linter.unusedSimpArgs false
set_option linter.unusedVariables false
namespace Go.Proofs.YtfmndmhjjbeokaaGreatDoor
open Go.RowKit Tab
def Eg(l:List Nd):Bool:=decide (0 < l.length) && decide (size l 0=l.length)
theorem whole_any(A:Option Addr)(n cap:Nat)(l:List Nd)(w:World)(h:RdN w w.heap.size A n l)(hc:n<=cap)(hn:n<=1099511627776):
  Calls Tryz.prog 69 #[.slice A n cap] w (Ans (.bool (Eg l)) w):=by
 generalize hb:Eg l=b;have HL:=hid h.len;have HB:=hid hb;clear hb;by_cases h0:0 < n
 ·generalize hS:size l 0=S;have HS:=hid hS;clear hS;go_in;go_wp2_with fail;refine(Z4 A n cap l 0 w h hc hn).mono ?_;rw[HS.o];rintro e w1⟨rfl,aA⟩;go_wp2;go_ret;refine Ans.mk (congrArg Value.bool (a₂:=((S:Int) == (n:Int))) ?_) aA;rw[<- HB.o,Eg,HL.o,HS.o,Bool.eq_iff_iff];simp;omega
 have aB:n<=0:=by omega
 go_in;go_wp2;go_ret;refine Ans.mk ?_ (Aj _ _);rw[<- HB.o,Eg,HL.o,show n=0 by omega];rfl
theorem Gd{l:List Nd}(h:Eg l=true):∃(x:Nd) (k:F),(F.cons x k .nil).ok/\l=x::k.flat:=by
 unfold Eg at h;simp only[Au,Av] at h;obtain⟨x,k,t,h1,_,_,h4,h5⟩:=size_tree (l:=l) (a:=0) (by omega);have aA:=congrArg List.length h4;simp only[Int.toNat_zero,List.drop_zero,Ad,Aa,F.flat_length] at aA;have ht:t=[]:=List.eq_nil_of_length_eq_zero (by omega);subst ht;exact⟨x,k,h1,by simpa using h4⟩
theorem Ge{x:Nd}{k:F}(h:(F.cons x k .nil).ok):Eg (x::k.flat)=true:=by
 have h1:size (x::k.flat) 0=1+k.sz:=size_at (l:=x::k.flat) (a:=0) (t:=[]) h (by simp[F.flat]);unfold Eg;simp only[Au,Av];exact⟨by simp,by rw[h1];simp only[Ad,F.flat_length];omega⟩
def Qc:Value->Nat
 | .slice _ n _=>n
 | _=>0
def is(l:List Int):List Value:=l.map (.int .i64)
theorem Gj(l:List Int):(is l).length=l.length:=by simp[is]
theorem Mb(l m:List Int):is (l++m)=is l++is m:=by simp[is]
theorem Vg(l:List Int):∀ u∈is l,u.oneCell'=true:=by
 intro u hu;obtain⟨z,_,rfl⟩:=By.1 hu;rfl
structure RdI(w:World)(B:Nat)(A:Option Addr)(n:Nat)(l:List Int):Prop where
 len:l.length=n
 rd:RdV w B A (is l)
section
variable {w w':World} {B B' n:Nat} {A:Option Addr} {l:List Int}
theorem RdI.below(h:RdI w B A n l)(hb:Below B w w'):RdI w' B A n l:=⟨h.len,h.rd.below hb⟩
theorem RdI.more(h:RdI w B A n l)(hB:B<=B'):RdI w B' A n l:=⟨h.len,h.rd.more hB⟩
theorem RdI.on(h:RdI w w.heap.size A n l)(hb:Below w.heap.size w w'):RdI w' w'.heap.size A n l:=(h.below hb).more hb.size
theorem RdI.at_(h:RdI w B A n l){i:Nat}(hi:i < n):∃(ad:Addr) (x:Int),A=some ad/\ad.block < B/\l[i]? = some x/\w.cell? (ad.add i)=some (.int .i64 x):=by
 have hl:i < l.length:=by rw[h.len];exact hi
 obtain⟨ad,e,hb,hc⟩:=h.rd (by rw[Gj];omega);exact⟨ad,l[i],e,hb,Am hl,hc _ _ (by simp[is,hl])⟩
end
def Qao(l:List Int)(w:World)(e:Ending)(w':World):Prop:=∃ A n c,e=.returned (.slice A n c)/\RdI w' w'.heap.size A n l/\n<=c/\Below w.heap.size w w'
def plc(l:List Nd)(p j:Nat):List Int:=(List.range j).map fun j=>(pos l p j:Int)
theorem bi(l:List Nd)(p j:Nat):plc l p (j+1)=plc l p j++[(pos l p j:Int)]:=by simp[plc,List.range_succ]
end Go.Proofs.YtfmndmhjjbeokaaGreatDoor
namespace Go.Proofs.YtfmndmhjjbeokaaGreatDoor
open Go.ChangeShapes Go.WideShapes Go.ChangeAt Go.RowKit Go.Deep
theorem own:ownKnob Tryz.prog.godebug=none:=by kernel_rfl
theorem laidOut:laidOutB Tryz.prog=true:=by kernel_rfl
theorem Yw{H:Type}{enc:TypeId×Value->H}{W:World}{A:Option Addr}{n k:Nat}{d:DataW H}{p:List MemPlace}
  (h:DataW.Trod enc Tryz.prog W 0 (fun _=>true) true 23 (.slice A n k) d p) :
  ∃ f:Nat->Int,RdC W W.heap.size A n (fun j=>.int .i64 (f j))/\n<=k/\(∀ j,j < n->(Lit.int .i64 (f j)).wf=true)/\(k=0\/∃ aC aA,d=.slice aC aA/\aC.length+aA.length=k):=by
 obtain⟨fuel,hf⟩:=h;rcases open_ints Tryz.underlying23 Tryz.underlying3 (by kernel_rfl) hf with ⟨aD,_⟩ | ⟨x,l,c,zs,aD,_,hl,hm,hz,hx,aB,aE⟩
 ·simp[Value.cells] at aD;obtain⟨rfl,rfl,rfl⟩:=aD;exact⟨fun _=>0,fun h=>absurd h (by omega),Ag _,fun j h=>absurd h (by omega),.inl rfl⟩
 simp[Value.cells] at aD;obtain⟨rfl,rfl,rfl⟩:=aD;have aF:zs.length=k:=by simpa using hz
 refine⟨fun j=>zs.getD j 0,fun h0=>⟨x,rfl,?_,fun j hj=>aB j (by omega)⟩,hl,fun j hj=>?_,.inr ⟨_,_,(Prod.mk.inj hx).1,?_⟩⟩
 ·have h1:=aB 0 (by omega);have h2:=Bj W _ h1;have e1:(x.add 0).block=x.block:=by unfold Addr.add;split <;> rfl
  rw[<- e1];exact h2
 ·have:j < zs.length:=by omega
  simp only[List.getD,Am this,Bq];exact aE _ (List.getElem_mem this)
 simp[lits];omega
theorem mb{H:Type}{enc:TypeId×Value->H}{W:World}{A:Option Addr}{n k:Nat}{d:DataW H}{p:List MemPlace}
  (h:DataW.Trod enc Tryz.prog W 0 (fun _=>true) true 23 (.slice A n k) d p)
  (hs:∀ aB aA,d=.slice aB aA->(aB.length+aA.length)*Tryz.prog.bytesOf 3<=reachBytes) :
  ∃ f:Nat->Int,RdC W W.heap.size A n (fun j=>.int .i64 (f j))/\n<=k/\k<=140737488351232/\∀ j,j < n->(Lit.int .i64 (f j)).wf=true:=by
 obtain⟨f,h1,h2,h4,h3⟩:=Yw h;refine⟨f,h1,h2,?_,h4⟩;rcases h3 with h3 | ⟨aB,aA,hd,hk⟩
 ·omega
 have:=hs aB aA hd;have e:Tryz.prog.bytesOf 3=8:=by kernel_rfl
 rw[e,hk] at this;simp only[reachBytes] at this;omega
end Go.Proofs.YtfmndmhjjbeokaaGreatDoor
namespace Go.Proofs.YtfmndmhjjbeokaaGreatDoor
namespace Txt
open Tab
def bsOf(l:List UInt8):ByteArray:=⟨l.toArray⟩
def toL(s:ByteArray):List UInt8:=s.data.toList
theorem bsOf_toL(s:ByteArray):bsOf (toL s)=s:=rfl
theorem toL_bsOf(l:List UInt8):toL (bsOf l)=l:=by simp[toL,bsOf]
def dg(d:Nat):UInt8:=UInt8.ofNat (48+d)
theorem dg_nat{d:Nat}(h:d < 10):(dg d).toNat=48+d:=by
 unfold dg;rw[UInt8.toNat_ofNat'];omega
def numR:Nat->Nat->List UInt8
 | 0,n=>[dg n]
 | k+1,n=>if n < 10 then [dg n] else numR k (n / 10)++[dg (n % 10)]
theorem numR_any:∀(k k' n:Nat),n<=k->n<=k'->numR k n=numR k' n
 | 0,0,_,_,_=>rfl
 | 0,k'+1,n,h,_=>by
  have:n < 10:=by omega
  simp[numR,this]
 | k+1,0,n,_,h=>by
  have:n < 10:=by omega
  simp[numR,this]
 | k+1,k'+1,n,h,h'=>by
  unfold numR
  split
  ·rfl
  ·rw[numR_any k k' (n / 10) (by omega) (by omega)]
def numB(n:Nat):List UInt8:=numR n n
theorem numB_low{n:Nat}(h:n < 10):numB n=[dg n]:=by
 unfold numB;cases n with
 | zero=>rfl
 | succ n =>
  unfold numR;rw[if_pos h]
theorem numB_high{n:Nat}(h:10<=n):numB n=numB (n / 10)++[dg (n % 10)]:=by
 unfold numB;cases n with
 | zero=>omega
 | succ n =>
  rw[numR,if_neg (by omega),numR_any n ((n+1) / 10) ((n+1) / 10) (by omega) (Ag _)]
def isD(c:UInt8):Bool:=decide (48<=c.toNat) && decide (c.toNat<=57)
theorem dg_isD{d:Nat}(h:d < 10):isD (dg d)=true:=by
 unfold isD;rw[dg_nat h,Ae (by omega),Ae (by omega)];rfl
theorem num_all:∀ n,∀ c∈numB n,isD c=true:=by
 intro n;induction n using Nat.strongRecOn with
 | ind n ih =>
  intro c hc;rcases Bk n 10 with h | h
  ·rw[numB_low h] at hc;obtain rfl:c=dg n:=by simpa using hc
   exact dg_isD h
  rw[numB_high h] at hc;rcases Ay.1 hc with hc | hc
  ·exact ih _ (by omega) c hc
  obtain rfl:c=dg (n % 10):=by simpa using hc
  exact dg_isD (by omega)
theorem num_pos(n:Nat):0 < (numB n).length:=by
 rcases Bk n 10 with h | h
 ·rw[numB_low h];exact Cv
 rw[numB_high h,Aa];show 0 < _+1;omega
theorem num_head:∀ n,1<=n->(numB n).head?≠some 48:=by
 intro n;induction n using Nat.strongRecOn with
 | ind n ih =>
  intro hn;rcases Bk n 10 with h | h
  ·rw[numB_low h];intro e;injection e with e;have:=congrArg UInt8.toNat e;rw[dg_nat h] at this;have:48+n=48:=this;omega
  rw[numB_high h,List.head?_append];have:=ih (n / 10) (by omega) (by omega);cases e:(numB (n / 10)).head? with
  | none =>
   have h1:=num_pos (n / 10);rw[List.head?_eq_none_iff.1 e] at h1;exact absurd h1 (by decide)
  | some c =>
   rw[e] at this;exact this
theorem num_len_le(k:Nat):∀ n,n < 10 ^ (k+1)->(numB n).length<=k+1:=by
 induction k with
 | zero=>intro n h;rw[numB_low (by simpa using h)];exact Ag _
 | succ k ih =>
  intro n h;rcases Bk n 10 with h1 | h1
  ·rw[numB_low h1];show 1<=_;omega
  rw[numB_high h1,Aa];have:=ih (n / 10) (by rw[Nat.pow_succ] at h;omega);show _+1<=_;omega
def valL(m:Nat):Nat->List UInt8->Option Nat
 | a,[]=>some a
 | a,c::s=>if isD c && decide (a<=m) then valL m (a*10+(c.toNat - 48)) s else none
theorem valL_cons(m a:Nat)(c:UInt8)(s:List UInt8):valL m a (c::s)=if isD c && decide (a<=m) then valL m (a*10+(c.toNat - 48)) s else none:=rfl
theorem valL_app(m:Nat):∀(s t:List UInt8) (a:Nat),valL m a (s++t)=(valL m a s).bind fun b=>valL m b t
 | [],t,a=>rfl
 | c::s,t,a=>by
  rw[Bo,valL_cons,valL_cons]
  split
  ·exact valL_app m s t _
  ·rfl
theorem valL_num(m:Nat):∀ n,n<=m->valL m 0 (numB n)=some n:=by
 intro n;induction n using Nat.strongRecOn with
 | ind n ih =>
  intro hn;rcases Bk n 10 with h | h
  ·rw[numB_low h];unfold valL;rw[dg_isD h,Ae (Cr _),dg_nat h];show some (0*10+(48+n - 48))=some n;rw[show 0*10+(48+n - 48)=n by omega]
  rw[numB_high h,valL_app,ih (n / 10) (by omega) (by omega)];show valL m (n / 10) [dg (n % 10)]=some n;unfold valL;rw[dg_isD (by omega),Ae (by omega),dg_nat (by omega)];show some (n / 10*10+(48+n % 10 - 48))=some n;rw[show n / 10*10+(48+n % 10 - 48)=n by omega]
def valF(m:Nat)(s:List UInt8):Nat×Bool :=
 match valL m 0 s with
 | none=>(0,false)
 | some a=>(a,decide (0 < s.length) && (decide (a<=m) && (decide (s.length=1) || !decide (s.head? = some 48))))
theorem valF_num{m n:Nat}(h:n<=m):valF m (numB n)=(n,true):=by
 unfold valF;rw[valL_num m n h];show (n,_)=(n,true);rw[Ae (num_pos n),Ae h];rcases Dm n with rfl | hn
 ·rfl
 rw[Ac (num_head n hn)];simp
theorem valL_le(m:Nat):∀(s:List UInt8) (a b:Nat),a<=m*10+9->valL m a s=some b->b<=m*10+9
 | [],a,b,ha,h=>by
  unfold valL at h
  injection h with h
  omega
 | c::s,a,b,ha,h=>by
  unfold valL at h
  split at h
  ·rename_i hc
   simp only[isD,Au,Av] at hc
   exact valL_le m s _ b (by omega) h
  ·cases h
def splitF(b:UInt8):List UInt8->List (List UInt8)
 | []=>[[]]
 | c::s=>if c=b then []::splitF b s else match splitF b s with
  | []=>[[c]]
  | x::l=>(c::x)::l
theorem splitF_cons(b c:UInt8)(s:List UInt8):splitF b (c::s)=if c=b then []::splitF b s else match splitF b s with
  | []=>[[c]]
  | x::l=>(c::x)::l:=rfl
theorem split_ne(b:UInt8):∀ s,splitF b s≠[]
 | []=>by simp[splitF]
 | c::s=>by
  unfold splitF
  split
  ·simp
  ·cases splitF b s <;> simp
theorem split_one{b:UInt8}:∀ {x:List UInt8},b ∉ x->splitF b x=[x]
 | [],_=>rfl
 | c::x,h=>by
  unfold splitF
  rw[if_neg (fun e=>h (by simp[e])),split_one (fun hx=>h (by simp[hx]))]
theorem split_at{b:UInt8}:∀ {x:List UInt8} (s:List UInt8),b ∉ x->splitF b (x++b::s)=x::splitF b s
 | [],s,_=>by simp[splitF]
 | c::x,s,h=>by
  rw[Bo,splitF_cons,if_neg (fun e=>h (by simp[e])),split_at s (fun hx=>h (by simp[hx]))]
end Txt
namespace Tab
structure Rn where
 p:Int
 n:Nat
def reps:Nat->List Rn->List Rn
 | 0,_=>[]
 | n+1,s=>s++reps n s
def whose(x:Nd):Int:=if x.k=2 then -1 else x.p
def one(x:Nd)(s:List Rn):List Rn:=if x.k=3 then s else if x.k=4 then reps x.n.toNat s else [⟨whose x,x.n.toNat⟩]
def F.lvs:F->List Rn
 | nil=>[]
 | cons x k r=>one x (lvs k)++lvs r
def ticks:List Rn->Nat
 | []=>0
 | r::s=>r.n+ticks s
theorem ticks_append(a b:List Rn):ticks (a++b)=ticks a+ticks b:=by
 induction a with
 | nil=>simp[ticks]
 | cons x a ih=>simp only[Bo,ticks,ih];omega
theorem ticks_reps(n:Nat)(s:List Rn):ticks (reps n s)=n*ticks s:=by
 induction n with
 | zero=>simp[reps,ticks]
 | succ n ih=>rw[reps,ticks_append,ih,Db];omega
theorem one_ticks(x:Nd)(s:List Rn):ticks (one x s)=F.tick x (ticks s):=by
 unfold one F.tick;split
 ·rfl
 split
 ·rw[ticks_reps,Nat.mul_comm]
 simp[ticks]
theorem lvs_ticks(f:F):ticks f.lvs=f.len:=by
 induction f with
 | nil=>rfl
 | cons x k r hk hr=>simp only[F.lvs,F.len,ticks_append,one_ticks,hk,hr]
theorem reps_mem{n:Nat}{s:List Rn}{r:Rn}(h:r∈reps n s):r∈s:=by
 induction n with
 | zero=>simp[reps] at h
 | succ n ih =>
  rcases Ay.1 h with h | h
  ·exact h
  exact ih h
theorem lvs_pos{f:F}(h:f.ok):∀ r∈f.lvs,1<=r.n:=by
 induction f with
 | nil=>intro r hr;simp[F.lvs] at hr
 | cons x k r hk hr =>
  intro q hq;rcases Ay.1 hq with hq | hq
  ·unfold one at hq;split at hq
   ·exact hk h.2.2.1 q hq
   split at hq
   ·exact hk h.2.2.1 q (reps_mem hq)
   simp at hq;subst hq;have:=fine_one h.1;show 1<=x.n.toNat;omega
  exact hr h.2.2.2 q hq
theorem length_le_ticks{s:List Rn}(h:∀ r∈s,1<=r.n):s.length<=ticks s:=by
 induction s with
 | nil=>simp[ticks]
 | cons r s ih =>
  have h1:=h r (by simp);have h2:=ih fun q hq=>h q (by simp[hq]);simp only[Ad,ticks];omega
theorem lvs_leaf{x:Nd}(h3:¬ x.k=3)(h4:¬ x.k=4)(s:List Rn):one x s=[⟨whose x,x.n.toNat⟩]:=by unfold one;rw[if_neg h3,if_neg h4]
theorem lvs_seq{x:Nd}(h3:x.k=3)(s:List Rn):one x s=s:=if_pos h3
theorem lvs_rep{x:Nd}(h4:x.k=4)(s:List Rn):one x s=reps x.n.toNat s:=by unfold one;rw[if_neg (by omega),if_pos h4]
theorem reps_one{n:Nat}(h:1<=n)(s:List Rn):reps n s=s++reps (n - 1) s:=by
 obtain⟨m,rfl⟩:∃ m,n=m+1:=⟨n - 1,by omega⟩;rfl
inductive Beh (l:List Nd):List (Nat×Nat)->Nat->List Rn->Prop
 | top:Beh l [] l.length []
 | seq {o:List (Nat×Nat)} {p:Nat} {f:F} {t:List Nd} {td:List Rn} (hok:f.ok) (hl:l.drop p=f.flat++t) (hd:o.length+1+f.dep<=16) (h:Beh l o (p+f.sz) td):Beh l ((f.cnt+1,0)::o) p (f.lvs++td)
 | rep {o:List (Nat×Nat)} {a b:Nat} {y:Nd} {k:F} {t:List Nd} {td:List Rn} (hok:(F.cons y k .nil).ok) (ha:1<=a) (ha2:a<=9223372036854775807) (hb:1<=b) (hl:l.drop b=y::(k.flat++t)) (hd:o.length+1+(k.dep+1)<=16)
   (h:Beh l o (b+1+k.sz) td):Beh l ((a,b)::o) (b+1+k.sz) (reps (a - 1) (one y k.lvs)++td)
def Ats(l:List Nd)(st:List (Nat×Nat))(p:Nat)(td:List Rn):Prop :=
 (st=[]/\p=l.length/\td=[])\/∃(x:Nd) (k:F) (t:List Nd) (u:List Rn),(F.cons x k .nil).ok/\l.drop p=x::(k.flat++t)/\st.length+(k.dep+1)<=16/\Beh l st (p+1+k.sz) u/\td=one x k.lvs++u
def AtL(l:List Nd)(st:List (Nat×Nat))(p:Nat)(td:List Rn):Prop :=
 (st=[]/\p=l.length/\td=[])\/∃(x:Nd) (u:List Rn),fine x=true/\¬ x.k=3/\¬ x.k=4/\l[p]? = some x/\st.length<=15/\Beh l st (p+1) u/\td=⟨whose x,x.n.toNat⟩::u
theorem drop_get{l:List Nd}{p:Nat}{x:Nd}{t:List Nd}(h:l.drop p=x::t):l[p]? = some x/\l.drop (p+1)=t/\p < l.length:=by
 have h1:(l.drop p)[0]? = some x:=by rw[h];rfl
 have h2:l[p]? = some x:=by simpa using h1
 refine⟨h2,?_,(Af.1 h2).1⟩;rw[<- List.drop_drop,h];rfl
theorem Ats.o{l:List Nd}{st:List (Nat×Nat)}{p:Nat}{td:List Rn}(h:Ats l st p td)(hp:l.length<=p):AtL l st p td:=by
 rcases h with h | ⟨x,k,t,u,_,h2,_⟩
 ·exact .inl h
 have:=(drop_get h2).2.2;omega
theorem Ats.le{l:List Nd}{st:List (Nat×Nat)}{p:Nat}{td:List Rn}(h:Ats l st p td):p<=l.length:=by
 rcases h with ⟨_,h,_⟩ | ⟨x,k,t,u,_,h2,_⟩
 ·omega
 have:=(drop_get h2).2.2;omega
theorem Ats.leaf{l:List Nd}{st:List (Nat×Nat)}{p:Nat}{td:List Rn}(h:Ats l st p td){x:Nd}(hx:l[p]? = some x)(h3:¬ x.k=3)(h4:¬ x.k=4):AtL l st p td:=by
 rcases h with h | ⟨y,k,t,u,h1,h2,h5,h6,h7⟩
 ·exact .inl h
 obtain⟨e,_,_⟩:=drop_get h2;rw[hx] at e;injection e with e;subst e;have hk:k=.nil:=F.cnt_zero (by rw[h1.2.1];unfold kn;rw[if_neg h3,if_neg h4]);subst hk;exact .inr ⟨x,u,h1.1,h3,h4,hx,by omega,h6,by rw[h7,lvs_leaf h3 h4];rfl⟩
theorem Ats.short{l:List Nd}{st:List (Nat×Nat)}{p:Nat}{td:List Rn}(h:Ats l st p td)(hp:p < l.length):st.length<=15:=by
 rcases h with h | ⟨y,k,t,u,h1,h2,h5,h6,h7⟩
 ·omega
 omega
theorem Ats.fine{l:List Nd}{st:List (Nat×Nat)}{p:Nat}{td:List Rn}(h:Ats l st p td){x:Nd}(hx:l[p]? = some x):Tab.fine x=true:=by
 rcases h with h | ⟨y,k,t,u,h1,h2,h5,h6,h7⟩
 ·have:=(Af.1 hx).1;omega
 obtain⟨e,_,_⟩:=drop_get h2;rw[hx] at e;injection e with e;subst e;exact h1.1
theorem Ats.seq{l:List Nd}{st:List (Nat×Nat)}{p:Nat}{td:List Rn}(h:Ats l st p td){x:Nd}(hx:l[p]? = some x)(h3:x.k=3):Ats l ((x.n.toNat,0)::st) (p+1) td:=by
 rcases h with h | ⟨y,k,t,u,h1,h2,h5,h6,h7⟩
 ·have:=(Af.1 hx).1;omega
 obtain⟨e,e2,_⟩:=drop_get h2;rw[hx] at e;injection e with e;subst e;obtain⟨hf,hc,aA,_⟩:=h1;have aB:k.cnt=x.n.toNat:=by rw[hc];unfold kn;rw[if_pos h3]
 have hn:=fine_one hf;cases k with
 | nil=>simp only[F.cnt] at aB;omega
 | cons y q r =>
  have e3:x.n.toNat=r.cnt+1:=by rw[<- aB];rfl
  have e4:l.drop (p+1)=y::(q.flat++(r.flat++t)):=by rw[e2];simp[F.flat]
  have e5:l.drop (p+1+1+q.sz)=r.flat++t:=by
   obtain⟨_,e6,_⟩:=drop_get e4;rw[<- List.drop_drop,e6,List.drop_left' (F.flat_length q)]
  simp only[F.dep] at h5;refine .inr ⟨y,q,r.flat++t,r.lvs++u,⟨aA.1,aA.2.1,aA.2.2.1,trivial⟩,e4,by simp only[Ad];omega,?_,?_⟩
  ·rw[e3];exact .seq aA.2.2.2 e5 (by omega) (by have:p+1+1+q.sz+r.sz=p+1+(F.cons y q r).sz:=(by simp only[F.sz];omega);rw[this];exact h6)
  rw[h7,lvs_seq h3,F.lvs,Ar]
theorem Ats.rep{l:List Nd}{st:List (Nat×Nat)}{p:Nat}{td:List Rn}(h:Ats l st p td){x:Nd}(hx:l[p]? = some x)(h4:x.k=4)(aC:x.n<=9223372036854775807):Ats l ((x.n.toNat,p+1)::st) (p+1) td:=by
 rcases h with h | ⟨y,k,t,u,h1,h2,h5,h6,h7⟩
 ·have:=(Af.1 hx).1;omega
 obtain⟨e,e2,_⟩:=drop_get h2;rw[hx] at e;injection e with e;subst e;obtain⟨hf,hc,aA,_⟩:=h1;have aB:k.cnt=1:=by rw[hc];unfold kn;rw[if_neg (by omega),if_pos h4]
 have hn:=fine_one hf;cases k with
 | nil=>simp[F.cnt] at aB
 | cons y q r =>
  obtain rfl:r=.nil:=F.cnt_zero (by simp only[F.cnt] at aB;omega);have e4:l.drop (p+1)=y::(q.flat++t):=by rw[e2];simp[F.flat]
  have e6:p+1+(F.cons y q .nil).sz=p+1+1+q.sz:=by simp only[F.sz];omega
  simp only[F.dep] at h5;rw[e6] at h6;refine .inr ⟨y,q,t,reps (x.n.toNat - 1) (one y q.lvs)++u,aA,e4,by simp only[Ad];omega,.rep aA (by omega) (by omega) (by omega) e4 (by omega) h6,?_⟩;rw[h7,lvs_rep h4,reps_one (by omega)];simp[F.lvs]
def popm:List (Nat×Nat)->Nat->List (Nat×Nat)×Nat
 | [],p=>([],p)
 | (a,b)::o,p=>if 1 < a then ((a - 1,b)::o,if 0 < b then b else p) else popm o p
theorem popm_more{a b:Nat}(o:List (Nat×Nat))(p:Nat)(h:1 < a):popm ((a,b)::o) p=((a - 1,b)::o,if 0 < b then b else p):=by simp only[popm];rw[if_pos h]
theorem popm_less{a b:Nat}(o:List (Nat×Nat))(p:Nat)(h:¬ 1 < a):popm ((a,b)::o) p=popm o p:=by simp only[popm];rw[if_neg h]
theorem Beh.pop{l:List Nd}{st:List (Nat×Nat)}{p:Nat}{td:List Rn}(h:Beh l st p td):Ats l (popm st p).1 (popm st p).2 td:=by
 induction h with
 | top=>exact .inl ⟨rfl,rfl,rfl⟩
 | @seq o p f t td aA hl hd h ih =>
  cases f with
  | nil =>
   rw[popm_less _ _ (by simp[F.cnt])];simpa [F.lvs,F.sz] using ih
  | cons y q r =>
   rw[popm_more _ _ (by simp[F.cnt])];show Ats l (((F.cons y q r).cnt+1 - 1,0)::o) p _;have e4:l.drop p=y::(q.flat++(r.flat++t)):=by rw[hl];simp[F.flat]
   have e5:l.drop (p+1+q.sz)=r.flat++t:=by
    obtain⟨_,e6,_⟩:=drop_get e4;rw[<- List.drop_drop,e6,List.drop_left' (F.flat_length q)]
   simp only[F.dep] at hd;refine .inr ⟨y,q,r.flat++t,r.lvs++td,⟨aA.1,aA.2.1,aA.2.2.1,trivial⟩,e4,by simp only[Ad];omega,?_,by rw[F.lvs,Ar]⟩;exact .seq aA.2.2.2 e5 (by omega) (by have:p+1+q.sz+r.sz=p+(F.cons y q r).sz:=(by simp only[F.sz];omega);rw[this];exact h)
 | @rep o a b y k t td aA ha aB hb hl hd h ih =>
  by_cases h1:1 < a
  ·rw[popm_more _ _ h1];dsimp only;rw[if_pos (by omega)];refine .inr ⟨y,k,t,reps (a - 1 - 1) (one y k.lvs)++td,aA,hl,by simp only[Ad];omega,.rep aA (by omega) (by omega) hb hl hd h,?_⟩;rw[reps_one (n:=a - 1) (by omega),Ar]
  rw[popm_less _ _ h1];have:a - 1=0:=by omega
  rw[this];exact ih
theorem Beh.bound{l:List Nd}{st:List (Nat×Nat)}{p:Nat}{td:List Rn}(h:Beh l st p td):∀ e∈st,1<=e.1/\e.1<=max 9223372036854775807 (l.length+1)/\e.2<=l.length:=by
 induction h with
 | top=>simp
 | @seq o p f t td aA hl hd h ih =>
  intro e he;rcases Ba.1 he with rfl | he
  ·have h1:=congrArg List.length hl;rw[C1,Aa,F.flat_length] at h1;have h2:=F.cnt_le_sz f;dsimp only;omega
  exact ih e he
 | @rep o a b y k t td aA ha aB hb hl hd h ih =>
  intro e he;rcases Ba.1 he with rfl | he
  ·have:=(drop_get hl).2.2;dsimp only;omega
  exact ih e he
theorem Ats.start{x:Nd}{k:F}(aA:(F.cons x k .nil).ok)(hd:k.dep+1<=16):Ats (x::k.flat) [] 0 (one x k.lvs):=by
 refine .inr ⟨x,k,[],[],aA,by simp,by simpa using hd,?_,by simp⟩;have:(0:Nat)+1+k.sz=(x::k.flat).length:=by simp only[Ad,F.flat_length];omega
 rw[this];exact .top
def whoAt:List Rn->Int->Int
 | [],_=>-1
 | r::s,t=>if t < 0 then -1 else if t < r.n then r.p else whoAt s (t - r.n)
