import Derived.Test.YtfmndmhjjbeokaaGreatDoorLow7
set_option linter.unusedSimpArgs false
set_option linter.unusedVariables false
namespace Go.Proofs.YtfmndmhjjbeokaaGreatDoor
open Go.RowKit Tab
theorem OwnV.obk_ge{E s B n c b:Nat}{w:World}{A:Option Addr}{l:List Value}(h:OwnV E s w B A n c l)(hA:obk A=some b):B<=b/\b < w.heap.size:=by
 rcases h.2 with ⟨hv,_⟩ | ⟨g,cap,aB,hv,aA,hg,_⟩
 ·injection hv with h1;subst h1;cases hA
 injection hv with h1;subst h1;injection hA with hA;have hA:g=b:=hA;subst hA;exact⟨aA,(Bt.1 hg).1⟩
def Qbc(l:List Nat):List Int:=l.map fun x:Nat=>(x:Int)
structure Stp(w:World)(B g n k:Nat)(R:Nat->Option Addr×Nat)(S:Nat->List Nat):Prop where
 outer:∃ f,Vec w g n f/\∀ i,i < k->f i=.slice (R i).1 (S i).length (R i).2
 rows:∀ i,i < k->OwnV 3 1 w B (R i).1 (S i).length (R i).2 (is (Qbc (S i)))
 low:B<=g
 ne:∀ i,i < k->obk (R i).1≠some g
 inj:∀ i j b,i < k->j < k->i≠j->obk (R i).1=some b->obk (R j).1≠some b
section
variable {w w':World} {g n k B:Nat} {R:Nat->Option Addr×Nat} {S:Nat->List Nat}
end
theorem Od(s n S N:Int)(w:World)(hs:0<=s)(hn:0<=n)(h:s+n<=4611686018427387904)(hS:S=s)(hN:N=n):
  Calls Tryz.prog 152 #[.int .i64 S,.int .i64 N] w fun e w'=>e=.returned (.int .i64 (s+n))/\w'=w:=by
 subst hS;subst hN;by_cases h0:N < 1
 ·have e:N=0:=by omega
  subst e;go_in;go_wp2;go_ret;exact⟨by simp,rfl⟩
 have h1:¬ 9223372036854775807 - N < S:=by omega
 go_in;go_wp2;go_ret;exact⟨rfl,rfl⟩
theorem Wf(s n S N:Int)(w:World)(hs:0<=s)(hn:0<=n)(h:s+n<=4611686018427387904)(hS:S=s)(hN:N=n):
  Calls Tryz.prog 87 #[.int .i64 S,.int .i64 N] w fun e w'=>e=.returned (.int .i64 (s+n))/\w'=w:=by
 subst hS;subst hN;have h1:¬ 9223372036854775807 - N < S:=by omega
 have m1:max S 0=S:=by omega
 have m2:max N 0=N:=by omega
 go_in;go_wp2;go_ret;exact⟨rfl,rfl⟩
end Go.Proofs.YtfmndmhjjbeokaaGreatDoor
namespace Go.Proofs.YtfmndmhjjbeokaaGreatDoor
namespace Tab
def tpush(out:List Rn)(x:Rn):List Rn:=if x.n=0 then out else match out.getLast? with
 | some y=>if y.p=x.p then out.dropLast++[⟨y.p,y.n+x.n⟩] else out++[x]
 | none=>[x]
def tidyOn(out l:List Rn):List Rn:=l.foldl tpush out
def tidy(l:List Rn):List Rn:=tidyOn [] l
def tkOf(p:Int):List Rn->Nat
 | []=>0
 | r::s=>(if r.p=p then r.n else 0)+tkOf p s
def Apart:List Rn->Prop
 | []=>True
 | [r]=>1<=r.n
 | r::q::s=>1<=r.n/\r.p≠q.p/\Apart (q::s)
theorem tpush_none{out:List Rn}{x:Rn}(h:x.n=0):tpush out x=out:=if_pos h
theorem tpush_nil{x:Rn}(h:x.n≠0):tpush [] x=[x]:=by unfold tpush;rw[if_neg h];rfl
theorem tpush_one{o:List Rn}{y x:Rn}(h:x.n≠0)(hp:y.p=x.p):tpush (o++[y]) x=o++[⟨y.p,y.n+x.n⟩]:=by
 unfold tpush;rw[if_neg h];simp[hp]
theorem tpush_new{o:List Rn}{y x:Rn}(h:x.n≠0)(hp:y.p≠x.p):tpush (o++[y]) x=o++[y]++[x]:=by
 unfold tpush;rw[if_neg h];simp[hp]
theorem tpush_cases(out:List Rn)(x:Rn):(x.n=0/\tpush out x=out)\/(x.n≠0/\out=[]/\tpush out x=[x])\/(∃ o y,x.n≠0/\out=o++[y]/\y.p=x.p/\tpush out x=o++[⟨y.p,y.n+x.n⟩])\/
  ∃ o y,x.n≠0/\out=o++[y]/\y.p≠x.p/\tpush out x=out++[x]:=by
 by_cases h:x.n=0
 ·exact .inl ⟨h,tpush_none h⟩
 rcases List.eq_nil_or_concat out with rfl | ⟨o,y,rfl⟩
 ·exact .inr (.inl ⟨h,rfl,tpush_nil h⟩)
 simp only[List.concat_eq_append];by_cases hp:y.p=x.p
 ·exact .inr (.inr (.inl ⟨o,y,h,rfl,hp,tpush_one h hp⟩))
 exact .inr (.inr (.inr ⟨o,y,h,rfl,hp,tpush_new h hp⟩))
theorem tidy_more{l:List Rn}{i:Nat}{r:Rn}(h:l[i]? = some r):tidy (l.take (i+1))=tpush (tidy (l.take i)) r:=by
 obtain⟨hi,e⟩:=Af.1 h;unfold tidy tidyOn;rw[Cb hi,List.foldl_append,e];rfl
theorem tkOf_append(p:Int)(a b:List Rn):tkOf p (a++b)=tkOf p a+tkOf p b:=by
 induction a with
 | nil=>simp[tkOf]
 | cons x a ih=>simp only[Bo,tkOf,ih];omega
theorem tkOf_le(p:Int)(l:List Rn):tkOf p l<=ticks l:=by
 induction l with
 | nil=>simp[tkOf,ticks]
 | cons x a ih=>simp only[tkOf,ticks];split <;> omega
theorem tkOf_push(p:Int)(out:List Rn)(x:Rn):tkOf p (tpush out x)=tkOf p out+if x.p=p then x.n else 0:=by
 rcases tpush_cases out x with ⟨h,e⟩ | ⟨h,rfl,e⟩ | ⟨o,y,h,rfl,hp,e⟩ | ⟨o,y,h,rfl,hp,e⟩
 ·rw[e,h];split <;> rfl
 ·rw[e];simp[tkOf]
 ·rw[e,tkOf_append,tkOf_append];simp only[tkOf,hp];split <;> omega
 rw[e,tkOf_append _ (o++[y])];simp only[tkOf];omega
theorem tkOf_tidyOn(p:Int)(l:List Rn):∀ out,tkOf p (tidyOn out l)=tkOf p out+tkOf p l:=by
 induction l with
 | nil=>intro out;simp[tidyOn,tkOf]
 | cons x l ih =>
  intro out;have:=ih (tpush out x);unfold tidyOn at this |-;rw[List.foldl_cons,this,tkOf_push];simp only[tkOf];omega
theorem tkOf_tidy(p:Int)(l:List Rn):tkOf p (tidy l)=tkOf p l:=by
 unfold tidy;rw[tkOf_tidyOn];simp[tkOf]
theorem ticks_push(out:List Rn)(x:Rn):ticks (tpush out x)=ticks out+x.n:=by
 rcases tpush_cases out x with ⟨h,e⟩ | ⟨h,rfl,e⟩ | ⟨o,y,h,rfl,hp,e⟩ | ⟨o,y,h,rfl,hp,e⟩
 ·rw[e,h];rfl
 ·rw[e];simp[ticks]
 ·rw[e,ticks_append,ticks_append];simp only[ticks];omega
 rw[e,ticks_append (o++[y])];simp only[ticks];omega
theorem ticks_tidyOn(l:List Rn):∀ out,ticks (tidyOn out l)=ticks out+ticks l:=by
 induction l with
 | nil=>intro out;simp[tidyOn,ticks]
 | cons x l ih =>
  intro out;have:=ih (tpush out x);unfold tidyOn at this |-;rw[List.foldl_cons,this,ticks_push];simp only[ticks];omega
theorem ticks_tidy(l:List Rn):ticks (tidy l)=ticks l:=by
 unfold tidy;rw[ticks_tidyOn];simp[ticks]
def Alike(a b:List Rn):Prop:=ticks a=ticks b/\∀ t:Int,0<=t->whoAt a t=whoAt b t
theorem Apart.pos{l:List Rn}(h:Apart l):∀ r∈l,1<=r.n:=by
 induction l with
 | nil=>simp
 | cons r l ih =>
  cases l with
  | nil=>intro q hq;simp at hq;subst hq;exact h
  | cons q s =>
   intro y hy;rcases Ba.1 hy with rfl | hy
   ·exact h.1
   exact ih h.2.2 y hy
theorem Apart.snoc{o:List Rn}{y x:Rn}(h:Apart (o++[y]))(hx:1<=x.n)(hp:y.p≠x.p):Apart (o++[y]++[x]):=by
 induction o with
 | nil=>exact⟨h,hp,hx⟩
 | cons r o ih =>
  cases o with
  | nil=>exact⟨h.1,h.2.1,ih h.2.2⟩
  | cons q s=>exact⟨h.1,h.2.1,ih h.2.2⟩
theorem Apart.more{o:List Rn}{y:Rn}(h:Apart (o++[y]))(k:Nat):Apart (o++[⟨y.p,y.n+k⟩]):=by
 induction o with
 | nil=>have h':1<=y.n:=h;show 1<=y.n+k;omega
 | cons r o ih =>
  cases o with
  | nil=>exact⟨h.1,h.2.1,ih h.2.2⟩
  | cons q s=>exact⟨h.1,h.2.1,ih h.2.2⟩
theorem Apart.push{out:List Rn}(h:Apart out)(x:Rn):Apart (tpush out x):=by
 rcases tpush_cases out x with ⟨h0,e⟩ | ⟨h0,rfl,e⟩ | ⟨o,y,h0,rfl,hp,e⟩ | ⟨o,y,h0,rfl,hp,e⟩
 ·rw[e];exact h
 ·rw[e];show 1<=x.n;omega
 ·rw[e];exact h.more _
 rw[e];exact h.snoc (by omega) hp
theorem tidyOn_apart(l:List Rn):∀ out,Apart out->Apart (tidyOn out l):=by
 induction l with
 | nil=>intro out h;exact h
 | cons x l ih=>intro out h;exact ih _ (h.push x)
theorem tidy_apart(l:List Rn):Apart (tidy l):=tidyOn_apart l [] trivial
theorem tpush_le(out:List Rn)(x:Rn):(tpush out x).length<=out.length+1/\out.length<=(tpush out x).length:=by
 rcases tpush_cases out x with ⟨h0,e⟩ | ⟨h0,rfl,e⟩ | ⟨o,y,h0,rfl,hp,e⟩ | ⟨o,y,h0,rfl,hp,e⟩ <;> rw[e] <;> simp
theorem tidyOn_le(l:List Rn):∀ out,(tidyOn out l).length<=out.length+l.length:=by
 induction l with
 | nil=>intro out;simp[tidyOn]
 | cons x l ih =>
  intro out;have h1:=ih (tpush out x);have h2:=(tpush_le out x).1;simp only[Ad];show (tidyOn (tpush out x) l).length<=_;omega
theorem tidy_le(l:List Rn):(tidy l).length<=l.length:=by
 have:=tidyOn_le l [];simpa [tidy] using this
theorem tidy_take_le(l:List Rn)(i:Nat):(tidy (l.take i)).length<=i:=by
 have:=tidy_le (l.take i);rw[Cl] at this;omega
theorem tkOf_more{p:Int}{l:List Rn}{i:Nat}{r:Rn}(h:l[i]? = some r):tkOf p (l.take (i+1))=tkOf p (l.take i)+if r.p=p then r.n else 0:=by
 obtain⟨hi,e⟩:=Af.1 h;rw[Cb hi,tkOf_append,e];simp[tkOf]
theorem tpush_part{out:List Rn}{x r:Rn}(h:r∈tpush out x):r.p=x.p\/∃ q∈out,q.p=r.p:=by
 rcases tpush_cases out x with ⟨h0,e⟩ | ⟨h0,rfl,e⟩ | ⟨q,y,h0,rfl,hq,e⟩ | ⟨q,y,h0,rfl,hq,e⟩
 ·rw[e] at h;exact .inr ⟨r,h,rfl⟩
 ·rw[e] at h;simp at h;subst h;exact .inl rfl
 ·rw[e] at h;rcases Ay.1 h with h | h
  ·exact .inr ⟨r,by simp[h],rfl⟩
  simp at h;subst h;exact .inl hq
 rw[e] at h;rcases Ay.1 h with h | h
 ·exact .inr ⟨r,h,rfl⟩
 simp at h;subst h;exact .inl rfl
theorem tidyOn_part(l:List Rn):∀ out,∀ r∈tidyOn out l,(∃ q∈out,q.p=r.p)\/∃ q∈l,q.p=r.p:=by
 induction l with
 | nil=>intro out r h;exact .inl ⟨r,h,rfl⟩
 | cons x l ih =>
  intro out r h;rcases ih (tpush out x) r h with ⟨q,hq,e⟩ | ⟨q,hq,e⟩
  ·rcases tpush_part hq with h | ⟨z,hz,e2⟩
   ·exact .inr ⟨x,by simp,by rw[<- h,e]⟩
   exact .inl ⟨z,hz,by rw[e2,e]⟩
  exact .inr ⟨q,by simp[hq],e⟩
theorem tidy_part{l:List Rn}{r:Rn}(h:r∈tidy l):∃ q∈l,q.p=r.p:=by
 rcases tidyOn_part l [] r h with ⟨q,hq,_⟩ | h
 ·simp at hq
 exact h
theorem mem_ticks{l:List Rn}{r:Rn}(h:r∈l):r.n<=ticks l:=by
 induction l with
 | nil=>simp at h
 | cons x l ih =>
  simp only[ticks];rcases Ba.1 h with rfl | h
  ·omega
  have:=ih h;omega
theorem one_parts{x:Nd}{s:List Rn}(hf:fine x=true)(h:∀ r∈s,-1<=r.p/\r.p<=5):∀ r∈one x s,-1<=r.p/\r.p<=5:=by
 intro r hr;unfold one at hr;split at hr
 ·exact h r hr
 split at hr
 ·exact h r (reps_mem hr)
 simp at hr;subst hr;unfold fine at hf;unfold whose;dsimp only;simp only[Au,Av] at hf;rename_i h3 h4;split
 ·omega
 have h5:=hf.2;rename_i h2;by_cases h1:x.k=1
 ·rw[if_pos h1] at h5;simp at h5;omega
 rw[if_neg h1] at h5;simp[h2,h3,h4] at h5
theorem lvs_parts{f:F}(h:f.ok):∀ r∈f.lvs,-1<=r.p/\r.p<=5:=by
 induction f with
 | nil=>intro r hr;simp[F.lvs] at hr
 | cons x k r hk hr =>
  intro q hq;rcases Ay.1 hq with hq | hq
  ·exact one_parts h.1 (hk h.2.2.1) q hq
  exact hr h.2.2.2 q hq
end Tab
end Go.Proofs.YtfmndmhjjbeokaaGreatDoor
namespace Go.Proofs.YtfmndmhjjbeokaaGreatDoor
open Go.RowKit Tab
theorem gw{l:List Nd}{a:Nat}(h:size l (a:Int)≠0):∃ x,l[a]? = some x/\fine x=true/\∀ j,j<=kn x->pos l (a+1) j<=l.length:=by
 obtain⟨x,k,t,aA,_,h2,h3,h4⟩:=size_tree h;rw[Bx] at h3;have hd:l.drop (a+1)=k.flat++t:=by
  rw[<- List.drop_drop,h3];rfl
 refine⟨x,?_,aA.1,fun j hj=>(pos_dr aA.2.2.1 hd (by omega) j (by rw[aA.2.1];exact hj)).2.2.2⟩;have:(l.drop a)[0]? = some x:=by rw[h3];rfl
 simpa using this
theorem Yv(l:List Nd)(a:Int)(h:size l a=0):kids l a=[]:=by unfold kids;rw[if_pos h]
