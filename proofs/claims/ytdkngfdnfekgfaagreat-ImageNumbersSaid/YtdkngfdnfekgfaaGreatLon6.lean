import Derived.Test.YtdkngfdnfekgfaaGreatLon5
import Derived.Deep.AppendLies
import Derived.Deep.RegionLaw
set_option linter.unusedSimpArgs false
set_option linter.unusedVariables false
namespace Go.Proofs.YtdkngfdnfekgfaaGreat
namespace Tab
def tpush(out:List Rn)(x:Rn):List Rn:=if x.n=0 then out else match out.getLast? with
 | some y=>if y.p=x.p then out.dropLast++[⟨y.p,y.n+x.n⟩] else out++[x]
 | none=>[x]
def tidyOn(out l:List Rn):List Rn:=l.foldl tpush out
def tidy(l:List Rn):List Rn:=tidyOn [] l
def tkOf(p:Int):List Rn→Nat
 | []=>0
 | r::s=>(if r.p=p then r.n else 0)+tkOf p s
def Apart:List Rn→Prop
 | []=>True
 | [r]=>1≤r.n
 | r::q::s=>1≤r.n∧r.p≠q.p∧Apart (q::s)
theorem tpush_none{out:List Rn}{x:Rn}(h:x.n=0):tpush out x=out:=if_pos h
theorem tpush_nil{x:Rn}(h:x.n≠0):tpush [] x=[x]:=by unfold tpush;rw[if_neg h];rfl
theorem tpush_one{o:List Rn}{y x:Rn}(h:x.n≠0)(hp:y.p=x.p):tpush (o++[y]) x=o++[⟨y.p,y.n+x.n⟩]:=by
 unfold tpush;rw[if_neg h];simp[hp]
theorem tpush_new{o:List Rn}{y x:Rn}(h:x.n≠0)(hp:y.p≠x.p):tpush (o++[y]) x=o++[y]++[x]:=by
 unfold tpush;rw[if_neg h];simp[hp]
theorem tpush_cases(out:List Rn)(x:Rn):(x.n=0∧tpush out x=out)∨(x.n≠0∧out=[]∧tpush out x=[x])∨(∃ o y,x.n≠0∧out=o++[y]∧y.p=x.p∧tpush out x=o++[⟨y.p,y.n+x.n⟩]) ∨
  ∃ o y,x.n≠0∧out=o++[y]∧y.p≠x.p∧tpush out x=out++[x]:=by
 by_cases h:x.n=0
 ·exact .inl ⟨h,tpush_none h⟩
 rcases List.eq_nil_or_concat out with rfl | ⟨o,y,rfl⟩
 ·exact .inr (.inl ⟨h,rfl,tpush_nil h⟩)
 simp only[List.concat_eq_append];by_cases hp:y.p=x.p
 ·exact .inr (.inr (.inl ⟨o,y,h,rfl,hp,tpush_one h hp⟩))
 exact .inr (.inr (.inr ⟨o,y,h,rfl,hp,tpush_new h hp⟩))
theorem tidy_more{l:List Rn}{i:Nat}{r:Rn}(h:l[i]? = some r):tidy (l.take (i+1))=tpush (tidy (l.take i)) r:=by
 obtain⟨hi,e⟩:=List.getElem?_eq_some_iff.1 h;unfold tidy tidyOn;rw[List.take_succ_eq_append_getElem hi,List.foldl_append,e];rfl
theorem tkOf_append(p:Int)(a b:List Rn):tkOf p (a++b)=tkOf p a+tkOf p b:=by
 induction a with
 | nil=>simp[tkOf]
 | cons x a ih=>simp only[List.cons_append,tkOf,ih];omega
theorem tkOf_le(p:Int)(l:List Rn):tkOf p l≤ticks l:=by
 induction l with
 | nil=>simp[tkOf,ticks]
 | cons x a ih=>simp only[tkOf,ticks];split <;> omega
theorem tkOf_push(p:Int)(out:List Rn)(x:Rn):tkOf p (tpush out x)=tkOf p out+if x.p=p then x.n else 0:=by
 rcases tpush_cases out x with ⟨h,e⟩ | ⟨h,rfl,e⟩ | ⟨o,y,h,rfl,hp,e⟩ | ⟨o,y,h,rfl,hp,e⟩
 ·rw[e,h];split <;> rfl
 ·rw[e];simp[tkOf]
 ·rw[e,tkOf_append,tkOf_append];simp only[tkOf,hp];split <;> omega
 rw[e,tkOf_append _ (o++[y])];simp only[tkOf];omega
theorem tkOf_tidyOn(p:Int)(l:List Rn):∀ out,tkOf p (tidyOn out l)=tkOf p out+tkOf p l:=by
 induction l with
 | nil=>intro out;simp[tidyOn,tkOf]
 | cons x l ih =>
  intro out;have:=ih (tpush out x);unfold tidyOn at this ⊢;rw[List.foldl_cons,this,tkOf_push];simp only[tkOf];omega
theorem tkOf_tidy(p:Int)(l:List Rn):tkOf p (tidy l)=tkOf p l:=by
 unfold tidy;rw[tkOf_tidyOn];simp[tkOf]
theorem ticks_push(out:List Rn)(x:Rn):ticks (tpush out x)=ticks out+x.n:=by
 rcases tpush_cases out x with ⟨h,e⟩ | ⟨h,rfl,e⟩ | ⟨o,y,h,rfl,hp,e⟩ | ⟨o,y,h,rfl,hp,e⟩
 ·rw[e,h];rfl
 ·rw[e];simp[ticks]
 ·rw[e,ticks_append,ticks_append];simp only[ticks];omega
 rw[e,ticks_append (o++[y])];simp only[ticks];omega
theorem ticks_tidyOn(l:List Rn):∀ out,ticks (tidyOn out l)=ticks out+ticks l:=by
 induction l with
 | nil=>intro out;simp[tidyOn,ticks]
 | cons x l ih =>
  intro out;have:=ih (tpush out x);unfold tidyOn at this ⊢;rw[List.foldl_cons,this,ticks_push];simp only[ticks];omega
theorem ticks_tidy(l:List Rn):ticks (tidy l)=ticks l:=by
 unfold tidy;rw[ticks_tidyOn];simp[ticks]
theorem Apart.pos{l:List Rn}(h:Apart l):∀ r∈l,1≤r.n:=by
 induction l with
 | nil=>simp
 | cons r l ih =>
  cases l with
  | nil=>intro q hq;simp at hq;subst hq;exact h
  | cons q s =>
   intro y hy;rcases List.mem_cons.1 hy with rfl | hy
   ·exact h.1
   exact ih h.2.2 y hy
theorem Apart.snoc{o:List Rn}{y x:Rn}(h:Apart (o++[y]))(hx:1≤x.n)(hp:y.p≠x.p):Apart (o++[y]++[x]):=by
 induction o with
 | nil=>exact⟨h,hp,hx⟩
 | cons r o ih =>
  cases o with
  | nil=>exact⟨h.1,h.2.1,ih h.2.2⟩
  | cons q s=>exact⟨h.1,h.2.1,ih h.2.2⟩
theorem Apart.more{o:List Rn}{y:Rn}(h:Apart (o++[y]))(k:Nat):Apart (o++[⟨y.p,y.n+k⟩]):=by
 induction o with
 | nil=>have h':1≤y.n:=h;show 1≤y.n+k;omega
 | cons r o ih =>
  cases o with
  | nil=>exact⟨h.1,h.2.1,ih h.2.2⟩
  | cons q s=>exact⟨h.1,h.2.1,ih h.2.2⟩
theorem Apart.push{out:List Rn}(h:Apart out)(x:Rn):Apart (tpush out x):=by
 rcases tpush_cases out x with ⟨h0,e⟩ | ⟨h0,rfl,e⟩ | ⟨o,y,h0,rfl,hp,e⟩ | ⟨o,y,h0,rfl,hp,e⟩
 ·rw[e];exact h
 ·rw[e];show 1≤x.n;omega
 ·rw[e];exact h.more _
 rw[e];exact h.snoc (by omega) hp
theorem tidyOn_apart(l:List Rn):∀ out,Apart out→Apart (tidyOn out l):=by
 induction l with
 | nil=>intro out h;exact h
 | cons x l ih=>intro out h;exact ih _ (h.push x)
theorem tidy_apart(l:List Rn):Apart (tidy l):=tidyOn_apart l [] trivial
theorem tpush_le(out:List Rn)(x:Rn):(tpush out x).length≤out.length+1∧out.length≤(tpush out x).length:=by
 rcases tpush_cases out x with ⟨h0,e⟩ | ⟨h0,rfl,e⟩ | ⟨o,y,h0,rfl,hp,e⟩ | ⟨o,y,h0,rfl,hp,e⟩ <;> rw[e] <;> simp
theorem tidyOn_le(l:List Rn):∀ out,(tidyOn out l).length≤out.length+l.length:=by
 induction l with
 | nil=>intro out;simp[tidyOn]
 | cons x l ih =>
  intro out;have h1:=ih (tpush out x);have h2:=(tpush_le out x).1;simp only[List.length_cons];show (tidyOn (tpush out x) l).length≤_;omega
theorem tidy_le(l:List Rn):(tidy l).length≤l.length:=by
 have:=tidyOn_le l [];simpa [tidy] using this
theorem tidy_take_le(l:List Rn)(i:Nat):(tidy (l.take i)).length≤i:=by
 have:=tidy_le (l.take i);rw[List.length_take] at this;omega
theorem tkOf_more{p:Int}{l:List Rn}{i:Nat}{r:Rn}(h:l[i]? = some r):tkOf p (l.take (i+1))=tkOf p (l.take i)+if r.p=p then r.n else 0:=by
 obtain⟨hi,e⟩:=List.getElem?_eq_some_iff.1 h;rw[List.take_succ_eq_append_getElem hi,tkOf_append,e];simp[tkOf]
theorem tpush_part{out:List Rn}{x r:Rn}(h:r∈tpush out x):r.p=x.p∨∃ q∈out,q.p=r.p:=by
 rcases tpush_cases out x with ⟨h0,e⟩ | ⟨h0,rfl,e⟩ | ⟨q,y,h0,rfl,hq,e⟩ | ⟨q,y,h0,rfl,hq,e⟩
 ·rw[e] at h;exact .inr ⟨r,h,rfl⟩
 ·rw[e] at h;simp at h;subst h;exact .inl rfl
 ·rw[e] at h;rcases List.mem_append.1 h with h | h
  ·exact .inr ⟨r,by simp[h],rfl⟩
  simp at h;subst h;exact .inl hq
 rw[e] at h;rcases List.mem_append.1 h with h | h
 ·exact .inr ⟨r,h,rfl⟩
 simp at h;subst h;exact .inl rfl
theorem tidyOn_part(l:List Rn):∀ out,∀ r∈tidyOn out l,(∃ q∈out,q.p=r.p)∨∃ q∈l,q.p=r.p:=by
 induction l with
 | nil=>intro out r h;exact .inl ⟨r,h,rfl⟩
 | cons x l ih =>
  intro out r h;rcases ih (tpush out x) r h with ⟨q,hq,e⟩ | ⟨q,hq,e⟩
  ·rcases tpush_part hq with h | ⟨z,hz,e2⟩
   ·exact .inr ⟨x,by simp,by rw[← h,e]⟩
   exact .inl ⟨z,hz,by rw[e2,e]⟩
  exact .inr ⟨q,by simp[hq],e⟩
theorem tidy_part{l:List Rn}{r:Rn}(h:r∈tidy l):∃ q∈l,q.p=r.p:=by
 rcases tidyOn_part l [] r h with ⟨q,hq,_⟩ | h
 ·simp at hq
 exact h
theorem mem_ticks{l:List Rn}{r:Rn}(h:r∈l):r.n≤ticks l:=by
 induction l with
 | nil=>simp at h
 | cons x l ih =>
  simp only[ticks];rcases List.mem_cons.1 h with rfl | h
  ·omega
  have:=ih h;omega
theorem one_parts{x:Nd}{s:List Rn}(hf:fine x=true)(h:∀ r∈s,-1≤r.p∧r.p≤5):∀ r∈one x s,-1≤r.p∧r.p≤5:=by
 intro r hr;unfold one at hr;split at hr
 ·exact h r hr
 split at hr
 ·exact h r (reps_mem hr)
 simp at hr;subst hr;unfold fine at hf;unfold whose;dsimp only;simp only[Bool.and_eq_true,decide_eq_true_eq] at hf;rename_i h3 h4;split
 ·omega
 have h5:=hf.2;rename_i h2;by_cases h1:x.k=1
 ·rw[if_pos h1] at h5;simp at h5;omega
 rw[if_neg h1] at h5;simp[h2,h3,h4] at h5
theorem lvs_parts{f:F}(h:f.ok):∀ r∈f.lvs,-1≤r.p∧r.p≤5:=by
 induction f with
 | nil=>intro r hr;simp[F.lvs] at hr
 | cons x k r hk hr =>
  intro q hq;rcases List.mem_append.1 hq with hq | hq
  ·exact one_parts h.1 (hk h.2.2.1) q hq
  exact hr h.2.2.2 q hq
end Tab
end Go.Proofs.YtdkngfdnfekgfaaGreat
namespace Go.Proofs.YtdkngfdnfekgfaaGreat
open Go.RowKit Tab
theorem elR:Elt 84 114 2 16 (.agg #[.int .i64 0,.int .i64 0]):=⟨Tryz.underlying84,by kernel_rfl,rfl,by omega⟩
def rs:List Rn→List Value
 | []=>[]
 | r::l=>.int .i64 r.p::.int .i64 (r.n:Int)::rs l
theorem rs_length(l:List Rn):(rs l).length=l.length*2:=by
 induction l with
 | nil=>rfl
 | cons x l ih=>simp only[rs,List.length_cons,ih];omega
theorem rs_append(l m:List Rn):rs (l++m)=rs l++rs m:=by
 induction l with
 | nil=>rfl
 | cons x l ih=>simp[rs,ih]
theorem rs_one(l:List Rn):∀ u∈rs l,u.oneCell'=true:=by
 induction l with
 | nil=>simp[rs]
 | cons x l ih =>
  intro u hu;simp only[rs,List.mem_cons] at hu;rcases hu with rfl | rfl | hu
  ·rfl
  ·rfl
  exact ih u hu
theorem rs_get(l:List Rn)(i:Nat)(h:i < l.length):(rs l)[i*2]? = some (.int .i64 l[i].p)∧(rs l)[i*2+1]? = some (.int .i64 (l[i].n:Int)):=by
 induction l generalizing i with
 | nil=>simp at h
 | cons x l ih =>
  cases i with
  | zero=>simp[rs]
  | succ i =>
   have:=ih i (by simpa using h);have e:(i+1)*2=i*2+1+1:=by omega
   rw[e];simp only[rs,List.getElem?_cons_succ,List.getElem_cons_succ];exact this
structure RdR(w:World)(B:Nat)(A:Option Addr)(n:Nat)(l:List Rn):Prop where
 len:l.length=n
 rd:RdV w B A (rs l)
section
variable {w w':World} {B B' n:Nat} {A:Option Addr} {l:List Rn}
theorem RdR.below(h:RdR w B A n l)(hb:Below B w w'):RdR w' B A n l:=⟨h.len,h.rd.below hb⟩
theorem RdR.more(h:RdR w B A n l)(hB:B≤B'):RdR w B' A n l:=⟨h.len,h.rd.more hB⟩
theorem RdR.on(h:RdR w w.heap.size A n l)(hb:Below w.heap.size w w'):RdR w' w'.heap.size A n l:=(h.below hb).more hb.size
theorem RdR.at_(h:RdR w B A n l){i:Nat}(hi:i < n):∃(ad:Addr) (r:Rn),A=some ad∧ad.block < B∧l[i]? = some r ∧
  w.cell? (ad.add (i*2))=some (.int .i64 r.p)∧w.cell? ⟨(ad.add (i*2)).block,(ad.add (i*2)).off+1,none⟩=some (.int .i64 (r.n:Int)):=by
 have hl:i < l.length:=by rw[h.len];exact hi
 obtain⟨ad,e,hb,hc⟩:=h.rd (by rw[rs_length];omega);obtain⟨h1,h2⟩:=rs_get l i hl;have e1:(⟨(ad.add (i*2)).block,(ad.add (i*2)).off+1,none⟩:Addr)=ad.add (i*2+1):=by
  rw[← add_add];generalize ad.add (i*2)=p;unfold Addr.add;rw[if_neg (by omega)]
 exact⟨ad,l[i],e,hb,List.getElem?_eq_getElem hl,hc _ _ h1,by rw[e1];exact hc _ _ h2⟩
end
def obk(A:Option Addr):Option Nat:=A.map (·.block)
theorem ownBlock_obk(A:Option Addr)(n c:Nat):(Value.slice A n c).ownBlock=obk A:=by cases A <;> rfl
structure Grew(A0 A:Option Addr)(w w':World):Prop where
 gb:w.grownBy w' (obk A0)
 at_:obk A=obk A0∨∃ g,obk A=some g∧w.heap.size≤g
theorem Grew.refl(A:Option Addr)(w:World):Grew A A w w:=⟨⟨rfl,rfl,rfl,Nat.le_refl _,fun _ _ _=>rfl⟩,.inl rfl⟩
theorem Grew.trans{A0 A1 A2:Option Addr}{w w1 w2:World}(h:Grew A0 A1 w w1)(k:Grew A1 A2 w1 w2):Grew A0 A2 w w2:=by
 refine⟨⟨k.gb.os.trans h.gb.os,k.gb.tape.trans h.gb.tape,k.gb.output.trans h.gb.output,Nat.le_trans h.gb.size k.gb.size,fun i hi hne=>?_⟩,?_⟩
 ·refine(k.gb.block i (Nat.lt_of_lt_of_le hi h.gb.size) ?_).trans (h.gb.block i hi hne);rcases h.at_ with e | ⟨g,e,hg⟩
  ·rw[e];exact hne
  rw[e];intro e2;injection e2 with e2;omega
 rcases k.at_ with e | ⟨g,e,hg⟩
 ·rw[e];exact h.at_
 exact .inr ⟨g,e,Nat.le_trans h.gb.size hg⟩
theorem Grew.bel{A0:Option Addr}{w w':World}(h:Below w.heap.size w w'):Grew A0 A0 w w':=⟨⟨h.os,h.tape,h.output,h.size,fun i hi _=>h.block i hi⟩,.inl rfl⟩
theorem Grew.drew{A0 A:Option Addr}{w w':World}(h:Grew A0 A w.drew w'):Grew A0 A w w':=⟨⟨h.gb.os,h.gb.tape,h.gb.output,h.gb.size,h.gb.block⟩,h.at_⟩
theorem run_appX{T E s b:Nat}{z:Value}(L:Elt T E s b z)(w:World)(B:Nat)(A:Option Addr)(n c:Nat)(l0:List Value)(h:OwnV E s w B A n c l0)(ad:Addr)(m d:Nat)(l:List Value)(Bs:Nat)(hr:RdV w Bs (some ad) l)
  (hl:l.length=m*s) (hm0:0 < m) (h1:∀ u∈l,u.oneCell'=true) (hb:(n+m)*b≤140737488355328) (hm:n+m≤maxLen) (hB:B≤w.heap.size) :
  ∃ A' c' w',(Builtin.append_ #[T,T] T #[.slice A n c,.slice (some ad) m d]).run Tryz.prog w=.ok (.slice A' (n+m) c') w'∧OwnV E s w' B A' (n+m) c' (l0++l)∧Below B w w'∧Grew A A' w w':=by
 obtain⟨i,hi,hz,hs,hby⟩:=info_parts L.hi
 have hpos:0 < l.length:=by rw[hl];exact Nat.mul_pos hm0 L.hs
 obtain⟨ad',e,_,hc⟩:=hr hpos
 injection e with e
 subst e
 obtain⟨v',w',hrun,hown,hgr,hnil,hat⟩:=run_append_own_at (P:=Tryz.prog) w B T T E i z s b L.ht hi hz hs hby L.hz L.hs (.slice A n c) n l0 h ad m d l hl hc h1 hm hb hB
 have hbel:Below B w w':=(Below.refl _ _).grown hgr hB (fun k hk=>by
  rcases h.2 with ⟨hv,_⟩ | ⟨g,cap,cur,hv,hbg,_⟩
  ·rw[hv] at hk;simp[Value.ownBlock] at hk
  ·rw[hv] at hk;simp[Value.ownBlock] at hk;omega)
 rcases hown.2 with ⟨hv,h0⟩ | ⟨g,cap,cur,hv,_⟩
 ·omega
 ·subst hv
  rw[ownBlock_obk] at hgr hat
  rw[ownBlock_obk] at hat
  exact⟨_,_,w',hrun,hown,hbel,hgr,hat.imp id fun e=>⟨_,e,Nat.le_refl _⟩⟩
section
variable {T E s b:Nat} {z:Value}
theorem step_appX(L:Elt T E s b z){ops:Array Oper}{o:Oper}{a:Act}{K:Act→World→Prop}{Q:Exit→Act→World→Prop}{w:World}{F:Prop}(hgd:o.guard=none)(x y:Operand)
  (ho:o.op=.call { callee:=.builtin .append,args:=#[x,y],argTypes:=#[T,T] }) (hty:o.type=T)
  (B:Nat) (A:Option Addr) (n c:Nat) (l0:List Value) (hx:a.eval x=.slice A n c) (h:OwnV E s w B A n c l0) (ad:Addr) (m d:Nat) (l:List Value) (Bs:Nat) (hy:a.eval y=.slice (some ad) m d) (hr:RdV w Bs (some ad) l)
  (hl:l.length=m*s) (hm0:0 < m) (h1:∀ u∈l,u.oneCell'=true) (hb:(n+m)*b≤140737488355328) (hm:n+m≤maxLen) (hB:B≤w.heap.size)
  (N:Nat) (hN:n+m=N) (M:List Value) (hM:l0++l=M)
  (hK:∀ A' c' w',OwnV E s w' B A' N c' M→Below B w w'→Grew A A' w w'→K (a.put o.dst (.slice A' N c')) w'):if Region.wanted o (yielded ops a.tmps)=true then Oper.wp Tryz.prog o a w K Q else F:=by
 have hw:Region.wanted o (yielded ops a.tmps)=true:=by simp[Region.wanted,hgd]
 rw[if_pos hw]
 subst hN;subst hM
 obtain⟨A',c',w',hrun,h1,h2,h3⟩:=run_appX L w B A n c l0 h ad m d l Bs hr hl hm0 h1 hb hm hB
 unfold Oper.wp execOp
 simp only[ho,hty,resolve,invoke,builtin,Sem.run_bind,Sem.run_pure,Result.andThen_ok,List.map_toArray,List.map_cons,List.map_nil,hx,hy,hrun]
 exact hK A' c' w' h1 h2 h3
theorem wpList_appX(L:Elt T E s b z){ops:Array Oper}{rest:List Oper}{o:Oper}{a:Act}{Q:Exit→Act→World→Prop}{w:World}(hgd:o.guard=none)(x y:Operand)
  (ho:o.op=.call { callee:=.builtin .append,args:=#[x,y],argTypes:=#[T,T] }) (hty:o.type=T)
  (B:Nat) (A:Option Addr) (n c:Nat) (l0:List Value) (hx:a.eval x=.slice A n c) (h:OwnV E s w B A n c l0) (ad:Addr) (m d:Nat) (l:List Value) (Bs:Nat) (hy:a.eval y=.slice (some ad) m d) (hr:RdV w Bs (some ad) l)
  (hl:l.length=m*s) (hm0:0 < m) (h1:∀ u∈l,u.oneCell'=true) (hb:(n+m)*b≤140737488355328) (hm:n+m≤maxLen) (hB:B≤w.heap.size)
  (N:Nat) (hN:n+m=N) (M:List Value) (hM:l0++l=M)
  (hK:∀ A' c' w',OwnV E s w' B A' N c' M→Below B w w'→Grew A A' w w'→wpList Tryz.prog ops Q rest (a.put o.dst (.slice A' N c')) w'):wpList Tryz.prog ops Q (o::rest) a w:=by
 subst hN;subst hM
 refine wpList_plain hgd fun K hk=>?_
 obtain⟨A',c',w',hrun,h1,h2,h3⟩:=run_appX L w B A n c l0 h ad m d l Bs hr hl hm0 h1 hb hm hB
 unfold Oper.wp execOp
 simp only[ho,hty,resolve,invoke,builtin,Sem.run_bind,Sem.run_pure,Result.andThen_ok,List.map_toArray,List.map_cons,List.map_nil,hx,hy,hrun]
 exact hk _ _ (hK A' c' w' h1 h2 h3)
end
theorem pos_fit{l:List Nd}{a:Nat}(h:size l (a:Int)≠0):∃ x,l[a]? = some x∧fine x=true∧∀ j,j≤kn x→pos l (a+1) j≤l.length:=by
 obtain⟨x,k,t,hok,_,h2,h3,h4⟩:=size_tree h;rw[Int.toNat_natCast] at h3;have hd:l.drop (a+1)=k.flat++t:=by
  rw[← List.drop_drop,h3];rfl
 refine⟨x,?_,hok.1,fun j hj=>(pos_dr hok.2.2.1 hd (by omega) j (by rw[hok.2.1];exact hj)).2.2.2⟩;have:(l.drop a)[0]? = some x:=by rw[h3];rfl
 simpa using this
theorem kids_none(l:List Nd)(a:Int)(h:size l a=0):kids l a=[]:=by unfold kids;rw[if_pos h]
end Go.Proofs.YtdkngfdnfekgfaaGreat
