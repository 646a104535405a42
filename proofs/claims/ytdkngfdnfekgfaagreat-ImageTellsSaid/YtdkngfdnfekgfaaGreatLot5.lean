import Derived.Test.YtdkngfdnfekgfaaGreatLot4
import Derived.Deep.Slices
import Derived.Deep.AppendLies
import Derived.Deep.RegionLaw
set_option maxRecDepth 100000
set_option linter.unusedSimpArgs false
set_option linter.unusedVariables false
namespace Go.Proofs.YtdkngfdnfekgfaaGreat
open Go.ChangeShapes Go.WideShapes Go.ChangeAt Go.RowKit Go.Deep Tab
def numOf:Option Value→Int
 | some (.int _ z)=>z
 | _=>0
def ndOf(W:World)(a:Addr)(i:Nat):Nd:=⟨numOf (W.cell? (a.add (i*3))),numOf (W.cell? (a.add (i*3+1))),numOf (W.cell? (a.add (i*3+2)))⟩
theorem ns_range(g:Nat→Nd)(n i:Nat)(hi:i < n):(ns ((List.range n).map g))[i*3]? = some (.int .i64 (g i).k)∧(ns ((List.range n).map g))[i*3+1]? = some (.int .i64 (g i).p)∧(ns ((List.range n).map g))[i*3+2]? = some (.int .i64 (g i).n):=by
 have:=ns_get ((List.range n).map g) i (by simpa using hi);simpa using this
theorem wf_in64{z:Int}(h:(Lit.int .i64 z).wf=true):In64 z:=by
 obtain⟨h1,h2⟩:-9223372036854775808≤z∧z≤9223372036854775807:=by simpa using bounds_i64 h
 exact⟨h1,h2⟩
theorem nodes_view{H:Type}{enc:TypeId×Value→H}{W:World}{A:Option Addr}{n k:Nat}{d:DataW H}{p:List MemPlace}
  (h:DataW.Trod enc Tryz.prog W 0 (fun _=>true) true 64 (.slice A n k) d p):∃ l:List Nd,RdN W W.heap.size A n l∧n≤k:=by
 obtain⟨fuel,hf⟩:=h;rcases open_slice Tryz.underlying64 hf with ⟨hcs,_⟩ | ⟨a,len,cap,m,q,D,Pl,hcs,hb,hl,hm,hmm,hx,hi⟩
 ·simp[Value.cells] at hcs;obtain⟨rfl,rfl,rfl⟩:=hcs;exact⟨[],⟨rfl,RdV.nil,fun _ h=>by cases h⟩,Nat.le_refl _⟩
 simp[Value.cells] at hcs;obtain⟨rfl,rfl,rfl⟩:=hcs;have hmc:m=k:=by rw[hmm];simp
 have key:∀ i,i < n→W.cell? (a.add (i*3))=some (.int .i64 (ndOf W a i).k)∧W.cell? (a.add (i*3+1))=some (.int .i64 (ndOf W a i).p)∧W.cell? (a.add (i*3+2))=some (.int .i64 (ndOf W a i).n)∧NdIn (ndOf W a i):=fun i hin=>by
  obtain⟨cs',h1,h2⟩:=hi i (by omega);rw[show Tryz.prog.cellsOf 70=3 by kernel_rfl] at h1;obtain⟨_,hcl,hat⟩:=World.cells?_some h1;obtain⟨ys,n',_,_,_,hyl,hfd⟩:=DataW.trod_struct Tryz.underlying70 h2;have hat0:=hat 0 (by omega);have hat1:=hat 1 (by omega);have hat2:=hat 2 (by omega);rw[Go.Proofs.YtdkngfdnfekgfaaGreat.add_add] at hat0 hat1 hat2
  match cs',hcl with
  | [v0,v1,v2],_ =>
   have f0:=hfd 0 _ rfl;have f1:=hfd 1 _ rfl;have f2:=hfd 2 _ rfl;change DataW.trod enc Tryz.prog W 0 (fun _=>true) true n' 3 (List.take (Tryz.prog.cellsOf 3) [v0,v1,v2])=ys[0]? at f0;change DataW.trod enc Tryz.prog W 0 (fun _=>true) true n' 3 (List.take (Tryz.prog.cellsOf 3) [v1,v2])=ys[1]? at f1;change DataW.trod enc Tryz.prog W 0 (fun _=>true) true n' 2 (List.take (Tryz.prog.cellsOf 2) [v2])=ys[2]? at f2;rw[show Tryz.prog.cellsOf 3=1 by kernel_rfl] at f0 f1;rw[show Tryz.prog.cellsOf 2=1 by kernel_rfl] at f2;simp only[List.take_succ_cons,List.take_zero] at f0 f1 f2;have hy3:ys.length=3:=hyl;rw[List.getElem?_eq_getElem (by omega)] at f0 f1 f2;obtain⟨z0,e0,_,w0⟩:=DataW.trod_int Tryz.underlying3 f0;obtain⟨z1,e1,_,w1⟩:=DataW.trod_int Tryz.underlying3 f1;obtain⟨z2,e2,_,w2⟩:=DataW.trod_int Tryz.underlying2 f2;simp only[List.cons.injEq,and_true] at e0 e1 e2;subst e0 e1 e2;simp only[List.getElem?_cons_zero,List.getElem?_cons_succ,Nat.add_zero] at hat0 hat1 hat2;have b0:=wf_in64 w0;have b1:=wf_in64 w1;have b2:=wf_in64 w2;unfold ndOf;rw[hat0,hat1,hat2];exact⟨rfl,rfl,rfl,b0,b1,b2⟩
 refine⟨(List.range n).map (ndOf W a),⟨by simp,fun h0=>⟨a,rfl,?_,fun j v hj=>?_⟩,fun x hx=>?_⟩,hl⟩
 ·rw[ns_length] at h0;simp only[List.length_map,List.length_range] at h0;have h1:=World.block_lt_of_cell? W _ (key 0 (by omega)).1;rw[Go.Proofs.YtdkngfdnfekgfaaGreat.add_block] at h1;exact h1
 ·have hjl:j < (ns ((List.range n).map (ndOf W a))).length:=(List.getElem?_eq_some_iff.1 hj).1;rw[ns_length] at hjl;simp only[List.length_map,List.length_range] at hjl;obtain⟨k0,k1,k2,_⟩:=key (j / 3) (by omega);obtain⟨r0,r1,r2⟩:=ns_range (ndOf W a) n (j / 3) (by omega);have hm3:j % 3=0∨j % 3=1∨j % 3=2:=by omega
  rcases hm3 with e | e | e
  ·have ej:j=j / 3*3:=by omega
   rw[ej] at hj ⊢;rw[r0] at hj;rw[k0,hj]
  ·have ej:j=j / 3*3+1:=by omega
   rw[ej] at hj ⊢;rw[r1] at hj;rw[k1,hj]
  have ej:j=j / 3*3+2:=by omega
  rw[ej] at hj ⊢;rw[r2] at hj;rw[k2,hj]
 obtain⟨i,hi2,rfl⟩:=List.mem_map.1 hx;exact(key i (by simpa using hi2)).2.2.2
end Go.Proofs.YtdkngfdnfekgfaaGreat
namespace Go.Proofs.YtdkngfdnfekgfaaGreat
namespace Tab
structure Rn where
 p:Int
 n:Nat
def reps:Nat→List Rn→List Rn
 | 0,_=>[]
 | n+1,s=>s++reps n s
def whose(x:Nd):Int:=if x.k=2 then -1 else x.p
def one(x:Nd)(s:List Rn):List Rn:=if x.k=3 then s else if x.k=4 then reps x.n.toNat s else [⟨whose x,x.n.toNat⟩]
def F.lvs:F→List Rn
 | nil=>[]
 | cons x k r=>one x (lvs k)++lvs r
def ticks:List Rn→Nat
 | []=>0
 | r::s=>r.n+ticks s
theorem ticks_append(a b:List Rn):ticks (a++b)=ticks a+ticks b:=by
 induction a with
 | nil=>simp[ticks]
 | cons x a ih=>simp only[List.cons_append,ticks,ih];omega
theorem ticks_reps(n:Nat)(s:List Rn):ticks (reps n s)=n*ticks s:=by
 induction n with
 | zero=>simp[reps,ticks]
 | succ n ih=>rw[reps,ticks_append,ih,Nat.succ_mul];omega
theorem one_ticks(x:Nd)(s:List Rn):ticks (one x s)=F.tick x (ticks s):=by
 unfold one F.tick;split
 ·rfl
 split
 ·rw[ticks_reps,Nat.mul_comm]
 simp[ticks]
theorem lvs_ticks(f:F):ticks f.lvs=f.len:=by
 induction f with
 | nil=>rfl
 | cons x k r hk hr=>simp only[F.lvs,F.len,ticks_append,one_ticks,hk,hr]
theorem reps_mem{n:Nat}{s:List Rn}{r:Rn}(h:r∈reps n s):r∈s:=by
 induction n with
 | zero=>simp[reps] at h
 | succ n ih =>
  rcases List.mem_append.1 h with h | h
  ·exact h
  exact ih h
theorem lvs_pos{f:F}(h:f.ok):∀ r∈f.lvs,1≤r.n:=by
 induction f with
 | nil=>intro r hr;simp[F.lvs] at hr
 | cons x k r hk hr =>
  intro q hq;rcases List.mem_append.1 hq with hq | hq
  ·unfold one at hq;split at hq
   ·exact hk h.2.2.1 q hq
   split at hq
   ·exact hk h.2.2.1 q (reps_mem hq)
   simp at hq;subst hq;have:=fine_one h.1;show 1≤x.n.toNat;omega
  exact hr h.2.2.2 q hq
theorem length_le_ticks{s:List Rn}(h:∀ r∈s,1≤r.n):s.length≤ticks s:=by
 induction s with
 | nil=>simp[ticks]
 | cons r s ih =>
  have h1:=h r (by simp);have h2:=ih fun q hq=>h q (by simp[hq]);simp only[List.length_cons,ticks];omega
theorem lvs_leaf{x:Nd}(h3:¬ x.k=3)(h4:¬ x.k=4)(s:List Rn):one x s=[⟨whose x,x.n.toNat⟩]:=by unfold one;rw[if_neg h3,if_neg h4]
theorem lvs_seq{x:Nd}(h3:x.k=3)(s:List Rn):one x s=s:=if_pos h3
theorem lvs_rep{x:Nd}(h4:x.k=4)(s:List Rn):one x s=reps x.n.toNat s:=by unfold one;rw[if_neg (by omega),if_pos h4]
theorem reps_one{n:Nat}(h:1≤n)(s:List Rn):reps n s=s++reps (n - 1) s:=by
 obtain⟨m,rfl⟩:∃ m,n=m+1:=⟨n - 1,by omega⟩;rfl
inductive Beh (l:List Nd):List (Nat×Nat)→Nat→List Rn→Prop
 | top:Beh l [] l.length []
 | seq {o:List (Nat×Nat)} {p:Nat} {f:F} {t:List Nd} {td:List Rn} (hok:f.ok) (hl:l.drop p=f.flat++t) (hd:o.length+1+f.dep≤16) (h:Beh l o (p+f.sz) td):Beh l ((f.cnt+1,0)::o) p (f.lvs++td)
 | rep {o:List (Nat×Nat)} {a b:Nat} {y:Nd} {k:F} {t:List Nd} {td:List Rn} (hok:(F.cons y k .nil).ok) (ha:1≤a) (ha2:a≤9223372036854775807) (hb:1≤b) (hl:l.drop b=y::(k.flat++t)) (hd:o.length+1+(k.dep+1)≤16)
   (h:Beh l o (b+1+k.sz) td):Beh l ((a,b)::o) (b+1+k.sz) (reps (a - 1) (one y k.lvs)++td)
def Ats(l:List Nd)(st:List (Nat×Nat))(p:Nat)(td:List Rn):Prop :=
 (st=[]∧p=l.length∧td=[])∨∃(x:Nd) (k:F) (t:List Nd) (u:List Rn),(F.cons x k .nil).ok∧l.drop p=x::(k.flat++t)∧st.length+(k.dep+1)≤16∧Beh l st (p+1+k.sz) u∧td=one x k.lvs++u
def AtL(l:List Nd)(st:List (Nat×Nat))(p:Nat)(td:List Rn):Prop :=
 (st=[]∧p=l.length∧td=[])∨∃(x:Nd) (u:List Rn),fine x=true∧¬ x.k=3∧¬ x.k=4∧l[p]? = some x∧st.length≤15∧Beh l st (p+1) u∧td=⟨whose x,x.n.toNat⟩::u
theorem drop_get{l:List Nd}{p:Nat}{x:Nd}{t:List Nd}(h:l.drop p=x::t):l[p]? = some x∧l.drop (p+1)=t∧p < l.length:=by
 have h1:(l.drop p)[0]? = some x:=by rw[h];rfl
 have h2:l[p]? = some x:=by simpa using h1
 refine⟨h2,?_,(List.getElem?_eq_some_iff.1 h2).1⟩;rw[← List.drop_drop,h];rfl
theorem Ats.out{l:List Nd}{st:List (Nat×Nat)}{p:Nat}{td:List Rn}(h:Ats l st p td)(hp:l.length≤p):AtL l st p td:=by
 rcases h with h | ⟨x,k,t,u,_,h2,_⟩
 ·exact .inl h
 have:=(drop_get h2).2.2;omega
theorem Ats.le{l:List Nd}{st:List (Nat×Nat)}{p:Nat}{td:List Rn}(h:Ats l st p td):p≤l.length:=by
 rcases h with ⟨_,h,_⟩ | ⟨x,k,t,u,_,h2,_⟩
 ·omega
 have:=(drop_get h2).2.2;omega
theorem Ats.leaf{l:List Nd}{st:List (Nat×Nat)}{p:Nat}{td:List Rn}(h:Ats l st p td){x:Nd}(hx:l[p]? = some x)(h3:¬ x.k=3)(h4:¬ x.k=4):AtL l st p td:=by
 rcases h with h | ⟨y,k,t,u,h1,h2,h5,h6,h7⟩
 ·exact .inl h
 obtain⟨e,_,_⟩:=drop_get h2;rw[hx] at e;injection e with e;subst e;have hk:k=.nil:=F.cnt_zero (by rw[h1.2.1];unfold kn;rw[if_neg h3,if_neg h4]);subst hk;exact .inr ⟨x,u,h1.1,h3,h4,hx,by omega,h6,by rw[h7,lvs_leaf h3 h4];rfl⟩
theorem Ats.short{l:List Nd}{st:List (Nat×Nat)}{p:Nat}{td:List Rn}(h:Ats l st p td)(hp:p < l.length):st.length≤15:=by
 rcases h with h | ⟨y,k,t,u,h1,h2,h5,h6,h7⟩
 ·omega
 omega
theorem Ats.fine{l:List Nd}{st:List (Nat×Nat)}{p:Nat}{td:List Rn}(h:Ats l st p td){x:Nd}(hx:l[p]? = some x):Tab.fine x=true:=by
 rcases h with h | ⟨y,k,t,u,h1,h2,h5,h6,h7⟩
 ·have:=(List.getElem?_eq_some_iff.1 hx).1;omega
 obtain⟨e,_,_⟩:=drop_get h2;rw[hx] at e;injection e with e;subst e;exact h1.1
theorem Ats.seq{l:List Nd}{st:List (Nat×Nat)}{p:Nat}{td:List Rn}(h:Ats l st p td){x:Nd}(hx:l[p]? = some x)(h3:x.k=3):Ats l ((x.n.toNat,0)::st) (p+1) td:=by
 rcases h with h | ⟨y,k,t,u,h1,h2,h5,h6,h7⟩
 ·have:=(List.getElem?_eq_some_iff.1 hx).1;omega
 obtain⟨e,e2,_⟩:=drop_get h2;rw[hx] at e;injection e with e;subst e;obtain⟨hf,hc,hok,_⟩:=h1;have hc':k.cnt=x.n.toNat:=by rw[hc];unfold kn;rw[if_pos h3]
 have hn:=fine_one hf;cases k with
 | nil=>simp only[F.cnt] at hc';omega
 | cons y q r =>
  have e3:x.n.toNat=r.cnt+1:=by rw[← hc'];rfl
  have e4:l.drop (p+1)=y::(q.flat++(r.flat++t)):=by rw[e2];simp[F.flat]
  have e5:l.drop (p+1+1+q.sz)=r.flat++t:=by
   obtain⟨_,e6,_⟩:=drop_get e4;rw[← List.drop_drop,e6,List.drop_left' (F.flat_length q)]
  simp only[F.dep] at h5;refine .inr ⟨y,q,r.flat++t,r.lvs++u,⟨hok.1,hok.2.1,hok.2.2.1,trivial⟩,e4,by simp only[List.length_cons];omega,?_,?_⟩
  ·rw[e3];exact .seq hok.2.2.2 e5 (by omega) (by have:p+1+1+q.sz+r.sz=p+1+(F.cons y q r).sz:=(by simp only[F.sz];omega);rw[this];exact h6)
  rw[h7,lvs_seq h3,F.lvs,List.append_assoc]
theorem Ats.rep{l:List Nd}{st:List (Nat×Nat)}{p:Nat}{td:List Rn}(h:Ats l st p td){x:Nd}(hx:l[p]? = some x)(h4:x.k=4)(hn2:x.n≤9223372036854775807):Ats l ((x.n.toNat,p+1)::st) (p+1) td:=by
 rcases h with h | ⟨y,k,t,u,h1,h2,h5,h6,h7⟩
 ·have:=(List.getElem?_eq_some_iff.1 hx).1;omega
 obtain⟨e,e2,_⟩:=drop_get h2;rw[hx] at e;injection e with e;subst e;obtain⟨hf,hc,hok,_⟩:=h1;have hc':k.cnt=1:=by rw[hc];unfold kn;rw[if_neg (by omega),if_pos h4]
 have hn:=fine_one hf;cases k with
 | nil=>simp[F.cnt] at hc'
 | cons y q r =>
  obtain rfl:r=.nil:=F.cnt_zero (by simp only[F.cnt] at hc';omega);have e4:l.drop (p+1)=y::(q.flat++t):=by rw[e2];simp[F.flat]
  have e6:p+1+(F.cons y q .nil).sz=p+1+1+q.sz:=by simp only[F.sz];omega
  simp only[F.dep] at h5;rw[e6] at h6;refine .inr ⟨y,q,t,reps (x.n.toNat - 1) (one y q.lvs)++u,hok,e4,by simp only[List.length_cons];omega,.rep hok (by omega) (by omega) (by omega) e4 (by omega) h6,?_⟩;rw[h7,lvs_rep h4,reps_one (by omega)];simp[F.lvs]
def popm:List (Nat×Nat)→Nat→List (Nat×Nat)×Nat
 | [],p=>([],p)
 | (a,b)::o,p=>if 1 < a then ((a - 1,b)::o,if 0 < b then b else p) else popm o p
theorem popm_more{a b:Nat}(o:List (Nat×Nat))(p:Nat)(h:1 < a):popm ((a,b)::o) p=((a - 1,b)::o,if 0 < b then b else p):=by simp only[popm];rw[if_pos h]
theorem popm_less{a b:Nat}(o:List (Nat×Nat))(p:Nat)(h:¬ 1 < a):popm ((a,b)::o) p=popm o p:=by simp only[popm];rw[if_neg h]
theorem Beh.pop{l:List Nd}{st:List (Nat×Nat)}{p:Nat}{td:List Rn}(h:Beh l st p td):Ats l (popm st p).1 (popm st p).2 td:=by
 induction h with
 | top=>exact .inl ⟨rfl,rfl,rfl⟩
 | @seq o p f t td hok hl hd h ih =>
  cases f with
  | nil =>
   rw[popm_less _ _ (by simp[F.cnt])];simpa [F.lvs,F.sz] using ih
  | cons y q r =>
   rw[popm_more _ _ (by simp[F.cnt])];show Ats l (((F.cons y q r).cnt+1 - 1,0)::o) p _;have e4:l.drop p=y::(q.flat++(r.flat++t)):=by rw[hl];simp[F.flat]
   have e5:l.drop (p+1+q.sz)=r.flat++t:=by
    obtain⟨_,e6,_⟩:=drop_get e4;rw[← List.drop_drop,e6,List.drop_left' (F.flat_length q)]
   simp only[F.dep] at hd;refine .inr ⟨y,q,r.flat++t,r.lvs++td,⟨hok.1,hok.2.1,hok.2.2.1,trivial⟩,e4,by simp only[List.length_cons];omega,?_,by rw[F.lvs,List.append_assoc]⟩;exact .seq hok.2.2.2 e5 (by omega) (by have:p+1+q.sz+r.sz=p+(F.cons y q r).sz:=(by simp only[F.sz];omega);rw[this];exact h)
 | @rep o a b y k t td hok ha ha2 hb hl hd h ih =>
  by_cases h1:1 < a
  ·rw[popm_more _ _ h1];dsimp only;rw[if_pos (by omega)];refine .inr ⟨y,k,t,reps (a - 1 - 1) (one y k.lvs)++td,hok,hl,by simp only[List.length_cons];omega,.rep hok (by omega) (by omega) hb hl hd h,?_⟩;rw[reps_one (n:=a - 1) (by omega),List.append_assoc]
  rw[popm_less _ _ h1];have:a - 1=0:=by omega
  rw[this];exact ih
theorem Beh.bound{l:List Nd}{st:List (Nat×Nat)}{p:Nat}{td:List Rn}(h:Beh l st p td):∀ e∈st,1≤e.1∧e.1≤max 9223372036854775807 (l.length+1)∧e.2≤l.length:=by
 induction h with
 | top=>simp
 | @seq o p f t td hok hl hd h ih =>
  intro e he;rcases List.mem_cons.1 he with rfl | he
  ·have h1:=congrArg List.length hl;rw[List.length_drop,List.length_append,F.flat_length] at h1;have h2:=F.cnt_le_sz f;dsimp only;omega
  exact ih e he
 | @rep o a b y k t td hok ha ha2 hb hl hd h ih =>
  intro e he;rcases List.mem_cons.1 he with rfl | he
  ·have:=(drop_get hl).2.2;dsimp only;omega
  exact ih e he
theorem Ats.start{x:Nd}{k:F}(hok:(F.cons x k .nil).ok)(hd:k.dep+1≤16):Ats (x::k.flat) [] 0 (one x k.lvs):=by
 refine .inr ⟨x,k,[],[],hok,by simp,by simpa using hd,?_,by simp⟩;have:(0:Nat)+1+k.sz=(x::k.flat).length:=by simp only[List.length_cons,F.flat_length];omega
 rw[this];exact .top
end Tab
end Go.Proofs.YtdkngfdnfekgfaaGreat
namespace Go.Proofs.YtdkngfdnfekgfaaGreat
open Go.RowKit Tab
theorem elR:Elt 84 114 2 16 (.agg #[.int .i64 0,.int .i64 0]):=⟨Tryz.underlying84,by kernel_rfl,rfl,by omega⟩
def rs:List Rn→List Value
 | []=>[]
 | r::l=>.int .i64 r.p::.int .i64 (r.n:Int)::rs l
theorem rs_length(l:List Rn):(rs l).length=l.length*2:=by
 induction l with
 | nil=>rfl
 | cons x l ih=>simp only[rs,List.length_cons,ih];omega
theorem rs_append(l m:List Rn):rs (l++m)=rs l++rs m:=by
 induction l with
 | nil=>rfl
 | cons x l ih=>simp[rs,ih]
theorem rs_one(l:List Rn):∀ u∈rs l,u.oneCell'=true:=by
 induction l with
 | nil=>simp[rs]
 | cons x l ih =>
  intro u hu;simp only[rs,List.mem_cons] at hu;rcases hu with rfl | rfl | hu
  ·rfl
  ·rfl
  exact ih u hu
theorem rs_get(l:List Rn)(i:Nat)(h:i < l.length):(rs l)[i*2]? = some (.int .i64 l[i].p)∧(rs l)[i*2+1]? = some (.int .i64 (l[i].n:Int)):=by
 induction l generalizing i with
 | nil=>simp at h
 | cons x l ih =>
  cases i with
  | zero=>simp[rs]
  | succ i =>
   have:=ih i (by simpa using h);have e:(i+1)*2=i*2+1+1:=by omega
   rw[e];simp only[rs,List.getElem?_cons_succ,List.getElem_cons_succ];exact this
structure RdR(w:World)(B:Nat)(A:Option Addr)(n:Nat)(l:List Rn):Prop where
 len:l.length=n
 rd:RdV w B A (rs l)
section
variable {w w':World} {B B' n:Nat} {A:Option Addr} {l:List Rn}
theorem RdR.below(h:RdR w B A n l)(hb:Below B w w'):RdR w' B A n l:=⟨h.len,h.rd.below hb⟩
theorem RdR.more(h:RdR w B A n l)(hB:B≤B'):RdR w B' A n l:=⟨h.len,h.rd.more hB⟩
theorem RdR.on(h:RdR w w.heap.size A n l)(hb:Below w.heap.size w w'):RdR w' w'.heap.size A n l:=(h.below hb).more hb.size
theorem RdR.at_(h:RdR w B A n l){i:Nat}(hi:i < n):∃(ad:Addr) (r:Rn),A=some ad∧ad.block < B∧l[i]? = some r ∧
  w.cell? (ad.add (i*2))=some (.int .i64 r.p)∧w.cell? ⟨(ad.add (i*2)).block,(ad.add (i*2)).off+1,none⟩=some (.int .i64 (r.n:Int)):=by
 have hl:i < l.length:=by rw[h.len];exact hi
 obtain⟨ad,e,hb,hc⟩:=h.rd (by rw[rs_length];omega);obtain⟨h1,h2⟩:=rs_get l i hl;have e1:(⟨(ad.add (i*2)).block,(ad.add (i*2)).off+1,none⟩:Addr)=ad.add (i*2+1):=by
  rw[← add_add];generalize ad.add (i*2)=p;unfold Addr.add;rw[if_neg (by omega)]
 exact⟨ad,l[i],e,hb,List.getElem?_eq_getElem hl,hc _ _ h1,by rw[e1];exact hc _ _ h2⟩
end
def obk(A:Option Addr):Option Nat:=A.map (·.block)
theorem ownBlock_obk(A:Option Addr)(n c:Nat):(Value.slice A n c).ownBlock=obk A:=by cases A <;> rfl
structure Grew(A0 A:Option Addr)(w w':World):Prop where
 gb:w.grownBy w' (obk A0)
 at_:obk A=obk A0∨∃ g,obk A=some g∧w.heap.size≤g
theorem Grew.refl(A:Option Addr)(w:World):Grew A A w w:=⟨⟨rfl,rfl,rfl,Nat.le_refl _,fun _ _ _=>rfl⟩,.inl rfl⟩
theorem Grew.trans{A0 A1 A2:Option Addr}{w w1 w2:World}(h:Grew A0 A1 w w1)(k:Grew A1 A2 w1 w2):Grew A0 A2 w w2:=by
 refine⟨⟨k.gb.os.trans h.gb.os,k.gb.tape.trans h.gb.tape,k.gb.output.trans h.gb.output,Nat.le_trans h.gb.size k.gb.size,fun i hi hne=>?_⟩,?_⟩
 ·refine(k.gb.block i (Nat.lt_of_lt_of_le hi h.gb.size) ?_).trans (h.gb.block i hi hne);rcases h.at_ with e | ⟨g,e,hg⟩
  ·rw[e];exact hne
  rw[e];intro e2;injection e2 with e2;omega
 rcases k.at_ with e | ⟨g,e,hg⟩
 ·rw[e];exact h.at_
 exact .inr ⟨g,e,Nat.le_trans h.gb.size hg⟩
theorem Grew.bel{A0:Option Addr}{w w':World}(h:Below w.heap.size w w'):Grew A0 A0 w w':=⟨⟨h.os,h.tape,h.output,h.size,fun i hi _=>h.block i hi⟩,.inl rfl⟩
theorem Grew.drew{A0 A:Option Addr}{w w':World}(h:Grew A0 A w.drew w'):Grew A0 A w w':=⟨⟨h.gb.os,h.gb.tape,h.gb.output,h.gb.size,h.gb.block⟩,h.at_⟩
theorem run_appX{T E s b:Nat}{z:Value}(L:Elt T E s b z)(w:World)(B:Nat)(A:Option Addr)(n c:Nat)(l0:List Value)(h:OwnV E s w B A n c l0)(ad:Addr)(m d:Nat)(l:List Value)(Bs:Nat)(hr:RdV w Bs (some ad) l)
  (hl:l.length=m*s) (hm0:0 < m) (h1:∀ u∈l,u.oneCell'=true) (hb:(n+m)*b≤140737488355328) (hm:n+m≤maxLen) (hB:B≤w.heap.size) :
  ∃ A' c' w',(Builtin.append_ #[T,T] T #[.slice A n c,.slice (some ad) m d]).run Tryz.prog w=.ok (.slice A' (n+m) c') w'∧OwnV E s w' B A' (n+m) c' (l0++l)∧Below B w w'∧Grew A A' w w':=by
 obtain⟨i,hi,hz,hs,hby⟩:=info_parts L.hi
 have hpos:0 < l.length:=by rw[hl];exact Nat.mul_pos hm0 L.hs
 obtain⟨ad',e,_,hc⟩:=hr hpos
 injection e with e
 subst e
 obtain⟨v',w',hrun,hown,hgr,hnil,hat⟩:=run_append_own_at (P:=Tryz.prog) w B T T E i z s b L.ht hi hz hs hby L.hz L.hs (.slice A n c) n l0 h ad m d l hl hc h1 hm hb hB
 have hbel:Below B w w':=(Below.refl _ _).grown hgr hB (fun k hk=>by
  rcases h.2 with ⟨hv,_⟩ | ⟨g,cap,cur,hv,hbg,_⟩
  ·rw[hv] at hk;simp[Value.ownBlock] at hk
  ·rw[hv] at hk;simp[Value.ownBlock] at hk;omega)
 rcases hown.2 with ⟨hv,h0⟩ | ⟨g,cap,cur,hv,_⟩
 ·omega
 ·subst hv
  rw[ownBlock_obk] at hgr hat
  rw[ownBlock_obk] at hat
  exact⟨_,_,w',hrun,hown,hbel,hgr,hat.imp id fun e=>⟨_,e,Nat.le_refl _⟩⟩
section
variable {T E s b:Nat} {z:Value}
theorem step_appX(L:Elt T E s b z){ops:Array Oper}{o:Oper}{a:Act}{K:Act→World→Prop}{Q:Exit→Act→World→Prop}{w:World}{F:Prop}(hgd:o.guard=none)(x y:Operand)
  (ho:o.op=.call { callee:=.builtin .append,args:=#[x,y],argTypes:=#[T,T] }) (hty:o.type=T)
  (B:Nat) (A:Option Addr) (n c:Nat) (l0:List Value) (hx:a.eval x=.slice A n c) (h:OwnV E s w B A n c l0) (ad:Addr) (m d:Nat) (l:List Value) (Bs:Nat) (hy:a.eval y=.slice (some ad) m d) (hr:RdV w Bs (some ad) l)
  (hl:l.length=m*s) (hm0:0 < m) (h1:∀ u∈l,u.oneCell'=true) (hb:(n+m)*b≤140737488355328) (hm:n+m≤maxLen) (hB:B≤w.heap.size)
  (N:Nat) (hN:n+m=N) (M:List Value) (hM:l0++l=M)
  (hK:∀ A' c' w',OwnV E s w' B A' N c' M→Below B w w'→Grew A A' w w'→K (a.put o.dst (.slice A' N c')) w'):if Region.wanted o (yielded ops a.tmps)=true then Oper.wp Tryz.prog o a w K Q else F:=by
 have hw:Region.wanted o (yielded ops a.tmps)=true:=by simp[Region.wanted,hgd]
 rw[if_pos hw]
 subst hN;subst hM
 obtain⟨A',c',w',hrun,h1,h2,h3⟩:=run_appX L w B A n c l0 h ad m d l Bs hr hl hm0 h1 hb hm hB
 unfold Oper.wp execOp
 simp only[ho,hty,resolve,invoke,builtin,Sem.run_bind,Sem.run_pure,Result.andThen_ok,List.map_toArray,List.map_cons,List.map_nil,hx,hy,hrun]
 exact hK A' c' w' h1 h2 h3
theorem wpList_appX(L:Elt T E s b z){ops:Array Oper}{rest:List Oper}{o:Oper}{a:Act}{Q:Exit→Act→World→Prop}{w:World}(hgd:o.guard=none)(x y:Operand)
  (ho:o.op=.call { callee:=.builtin .append,args:=#[x,y],argTypes:=#[T,T] }) (hty:o.type=T)
  (B:Nat) (A:Option Addr) (n c:Nat) (l0:List Value) (hx:a.eval x=.slice A n c) (h:OwnV E s w B A n c l0) (ad:Addr) (m d:Nat) (l:List Value) (Bs:Nat) (hy:a.eval y=.slice (some ad) m d) (hr:RdV w Bs (some ad) l)
  (hl:l.length=m*s) (hm0:0 < m) (h1:∀ u∈l,u.oneCell'=true) (hb:(n+m)*b≤140737488355328) (hm:n+m≤maxLen) (hB:B≤w.heap.size)
  (N:Nat) (hN:n+m=N) (M:List Value) (hM:l0++l=M)
  (hK:∀ A' c' w',OwnV E s w' B A' N c' M→Below B w w'→Grew A A' w w'→wpList Tryz.prog ops Q rest (a.put o.dst (.slice A' N c')) w'):wpList Tryz.prog ops Q (o::rest) a w:=by
 subst hN;subst hM
 refine wpList_plain hgd fun K hk=>?_
 obtain⟨A',c',w',hrun,h1,h2,h3⟩:=run_appX L w B A n c l0 h ad m d l Bs hr hl hm0 h1 hb hm hB
 unfold Oper.wp execOp
 simp only[ho,hty,resolve,invoke,builtin,Sem.run_bind,Sem.run_pure,Result.andThen_ok,List.map_toArray,List.map_cons,List.map_nil,hx,hy,hrun]
 exact hk _ _ (hK A' c' w' h1 h2 h3)
end
end Go.Proofs.YtdkngfdnfekgfaaGreat
