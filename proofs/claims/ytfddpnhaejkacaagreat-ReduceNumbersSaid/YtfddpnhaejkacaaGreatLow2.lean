import Derived.Test.YtfddpnhaejkacaaGreatLow1
import Derived.ProofKit
import Derived.OpenShut
import Derived.ChangeOld
import Derived.SizedLaws
import Derived.Deep.CondSized
import Derived.JoinedCond
import Derived.Deep.Strs
import Derived.Deep.AppendLies
import Derived.Deep.RegionLaw
set_option linter.unusedSimpArgs false
set_option linter.unusedVariables false
namespace Go.Proofs.YtfddpnhaejkacaaGreat
open Go.ChangeShapes Go.WideShapes Go.ChangeAt Go.RowKit Go.Deep
theorem own:ownKnob Tryz.prog.godebug=none:=by kernel_rfl
theorem laidOut:laidOutB Tryz.prog=true:=by kernel_rfl
theorem ints_view {H:Type} {enc:TypeId×Value→H} {W:World} {A:Option Addr} {n k:Nat} {d:DataW H} {p:List MemPlace}
  (h:DataW.Trod enc Tryz.prog W 0 (fun _=>true) true 23 (.slice A n k) d p) :
  ∃ f:Nat→Int,RdC W W.heap.size A n (fun j=>.int .i64 (f j))∧n≤k∧(∀ j,j < n→(Lit.int .i64 (f j)).wf=true)∧(k=0∨∃ elems spare,d=.slice elems spare∧elems.length+spare.length=k):=by
 obtain⟨fuel,hf⟩:=h
 rcases open_ints Tryz.underlying23 Tryz.underlying3 (by kernel_rfl) hf with ⟨hcs,_⟩ | ⟨x,l,c,zs,hcs,_,hl,hm,hz,hx,hcell,hwz⟩
 ·simp[Value.cells] at hcs
  obtain⟨rfl,rfl,rfl⟩:=hcs
  exact⟨fun _=>0,fun h=>absurd h (by omega),Nat.le_refl _,fun j h=>absurd h (by omega),.inl rfl⟩
 ·simp[Value.cells] at hcs
  obtain⟨rfl,rfl,rfl⟩:=hcs
  have hz':zs.length=k:=by simpa using hz
  refine⟨fun j=>zs.getD j 0,fun h0=>⟨x,rfl,?_,fun j hj=>hcell j (by omega)⟩,hl,fun j hj=>?_,.inr ⟨_,_,(Prod.mk.inj hx).1,?_⟩⟩
  ·have h1:=hcell 0 (by omega)
   have h2:=World.block_lt_of_cell? W _ h1
   have e1:(x.add 0).block=x.block:=by unfold Addr.add;split <;> rfl
   rw[← e1];exact h2
  ·have:j < zs.length:=by omega
   simp only[List.getD,List.getElem?_eq_getElem this,Option.getD_some]
   exact hwz _ (List.getElem_mem this)
  ·simp[lits];omega
theorem ints_sized {H:Type} {enc:TypeId×Value→H} {W:World} {A:Option Addr} {n k:Nat} {d:DataW H} {p:List MemPlace}
  (h:DataW.Trod enc Tryz.prog W 0 (fun _=>true) true 23 (.slice A n k) d p)
  (hs:∀ elems spare,d=.slice elems spare→(elems.length+spare.length)*Tryz.prog.bytesOf 3≤reachBytes) :
  ∃ f:Nat→Int,RdC W W.heap.size A n (fun j=>.int .i64 (f j))∧n≤k∧k≤140737488351232∧∀ j,j < n→(Lit.int .i64 (f j)).wf=true:=by
 obtain⟨f,h1,h2,h4,h3⟩:=ints_view h
 refine⟨f,h1,h2,?_,h4⟩
 rcases h3 with h3 | ⟨elems,spare,hd,hk⟩
 ·omega
 ·have:=hs elems spare hd
  have e:Tryz.prog.bytesOf 3=8:=by kernel_rfl
  rw[e,hk] at this
  simp only[reachBytes] at this
  omega
end Go.Proofs.YtfddpnhaejkacaaGreat
namespace Go.Proofs.YtfddpnhaejkacaaGreat
namespace Tab
structure Rn where
 p:Int
 n:Nat
def reps:Nat→List Rn→List Rn
 | 0,_=>[]
 | n+1,s=>s++reps n s
def whose (x:Nd):Int:=if x.k=2 then -1 else x.p
def one (x:Nd) (s:List Rn):List Rn:=if x.k=3 then s else if x.k=4 then reps x.n.toNat s else [⟨whose x,x.n.toNat⟩]
def F.lvs:F→List Rn
 | nil=>[]
 | cons x k r=>one x (lvs k)++lvs r
def ticks:List Rn→Nat
 | []=>0
 | r::s=>r.n+ticks s
theorem ticks_append (a b:List Rn):ticks (a++b)=ticks a+ticks b:=by
 induction a with
 | nil=>simp[ticks]
 | cons x a ih=>simp only[List.cons_append,ticks,ih];omega
theorem ticks_reps (n:Nat) (s:List Rn):ticks (reps n s)=n*ticks s:=by
 induction n with
 | zero=>simp[reps,ticks]
 | succ n ih=>rw[reps,ticks_append,ih,Nat.succ_mul];omega
theorem one_ticks (x:Nd) (s:List Rn):ticks (one x s)=F.tick x (ticks s):=by
 unfold one F.tick
 split
 ·rfl
 ·split
  ·rw[ticks_reps,Nat.mul_comm]
  ·simp[ticks]
theorem lvs_ticks (f:F):ticks f.lvs=f.len:=by
 induction f with
 | nil=>rfl
 | cons x k r hk hr=>simp only[F.lvs,F.len,ticks_append,one_ticks,hk,hr]
theorem reps_mem {n:Nat} {s:List Rn} {r:Rn} (h:r∈reps n s):r∈s:=by
 induction n with
 | zero=>simp[reps] at h
 | succ n ih =>
  rcases List.mem_append.1 h with h | h
  ·exact h
  ·exact ih h
theorem lvs_pos {f:F} (h:f.ok):∀ r∈f.lvs,1≤r.n:=by
 induction f with
 | nil=>intro r hr;simp[F.lvs] at hr
 | cons x k r hk hr =>
  intro q hq
  rcases List.mem_append.1 hq with hq | hq
  ·unfold one at hq
   split at hq
   ·exact hk h.2.2.1 q hq
   ·split at hq
    ·exact hk h.2.2.1 q (reps_mem hq)
    ·simp at hq
     subst hq
     have:=fine_one h.1
     show 1≤x.n.toNat
     omega
  ·exact hr h.2.2.2 q hq
theorem length_le_ticks {s:List Rn} (h:∀ r∈s,1≤r.n):s.length≤ticks s:=by
 induction s with
 | nil=>simp[ticks]
 | cons r s ih =>
  have h1:=h r (by simp)
  have h2:=ih fun q hq=>h q (by simp[hq])
  simp only[List.length_cons,ticks]
  omega
theorem lvs_leaf {x:Nd} (h3:¬ x.k=3) (h4:¬ x.k=4) (s:List Rn):one x s=[⟨whose x,x.n.toNat⟩]:=by unfold one;rw[if_neg h3,if_neg h4]
theorem lvs_seq {x:Nd} (h3:x.k=3) (s:List Rn):one x s=s:=if_pos h3
theorem lvs_rep {x:Nd} (h4:x.k=4) (s:List Rn):one x s=reps x.n.toNat s:=by unfold one;rw[if_neg (by omega),if_pos h4]
theorem reps_one {n:Nat} (h:1≤n) (s:List Rn):reps n s=s++reps (n - 1) s:=by
 obtain⟨m,rfl⟩:∃ m,n=m+1:=⟨n - 1,by omega⟩
 rfl
inductive Beh (l:List Nd):List (Nat×Nat)→Nat→List Rn→Prop
 | top:Beh l [] l.length []
 | seq {o:List (Nat×Nat)} {p:Nat} {f:F} {t:List Nd} {td:List Rn} (hok:f.ok) (hl:l.drop p=f.flat++t) (hd:o.length+1+f.dep≤16) (h:Beh l o (p+f.sz) td):Beh l ((f.cnt+1,0)::o) p (f.lvs++td)
 | rep {o:List (Nat×Nat)} {a b:Nat} {y:Nd} {k:F} {t:List Nd} {td:List Rn} (hok:(F.cons y k .nil).ok) (ha:1≤a) (ha2:a≤9223372036854775807) (hb:1≤b) (hl:l.drop b=y::(k.flat++t)) (hd:o.length+1+(k.dep+1)≤16)
   (h:Beh l o (b+1+k.sz) td):Beh l ((a,b)::o) (b+1+k.sz) (reps (a - 1) (one y k.lvs)++td)
def Ats (l:List Nd) (st:List (Nat×Nat)) (p:Nat) (td:List Rn):Prop :=
 (st=[]∧p=l.length∧td=[])∨∃(x:Nd) (k:F) (t:List Nd) (u:List Rn),(F.cons x k .nil).ok∧l.drop p=x::(k.flat++t)∧st.length+(k.dep+1)≤16∧Beh l st (p+1+k.sz) u∧td=one x k.lvs++u
def AtL (l:List Nd) (st:List (Nat×Nat)) (p:Nat) (td:List Rn):Prop :=
 (st=[]∧p=l.length∧td=[])∨∃(x:Nd) (u:List Rn),fine x=true∧¬ x.k=3∧¬ x.k=4∧l[p]? = some x∧st.length≤15∧Beh l st (p+1) u∧td=⟨whose x,x.n.toNat⟩::u
theorem drop_get {l:List Nd} {p:Nat} {x:Nd} {t:List Nd} (h:l.drop p=x::t):l[p]? = some x∧l.drop (p+1)=t∧p < l.length:=by
 have h1:(l.drop p)[0]? = some x:=by rw[h];rfl
 have h2:l[p]? = some x:=by simpa using h1
 refine⟨h2,?_,(List.getElem?_eq_some_iff.1 h2).1⟩
 rw[← List.drop_drop,h]
 rfl
theorem Ats.out {l:List Nd} {st:List (Nat×Nat)} {p:Nat} {td:List Rn} (h:Ats l st p td) (hp:l.length≤p):AtL l st p td:=by
 rcases h with h | ⟨x,k,t,u,_,h2,_⟩
 ·exact .inl h
 ·have:=(drop_get h2).2.2
  omega
theorem Ats.le {l:List Nd} {st:List (Nat×Nat)} {p:Nat} {td:List Rn} (h:Ats l st p td):p≤l.length:=by
 rcases h with ⟨_,h,_⟩ | ⟨x,k,t,u,_,h2,_⟩
 ·omega
 ·have:=(drop_get h2).2.2
  omega
theorem Ats.leaf {l:List Nd} {st:List (Nat×Nat)} {p:Nat} {td:List Rn} (h:Ats l st p td) {x:Nd} (hx:l[p]? = some x) (h3:¬ x.k=3) (h4:¬ x.k=4):AtL l st p td:=by
 rcases h with h | ⟨y,k,t,u,h1,h2,h5,h6,h7⟩
 ·exact .inl h
 ·obtain⟨e,_,_⟩:=drop_get h2
  rw[hx] at e
  injection e with e
  subst e
  have hk:k=.nil:=F.cnt_zero (by rw[h1.2.1];unfold kn;rw[if_neg h3,if_neg h4])
  subst hk
  exact .inr ⟨x,u,h1.1,h3,h4,hx,by omega,h6,by rw[h7,lvs_leaf h3 h4];rfl⟩
theorem Ats.short {l:List Nd} {st:List (Nat×Nat)} {p:Nat} {td:List Rn} (h:Ats l st p td) (hp:p < l.length):st.length≤15:=by
 rcases h with h | ⟨y,k,t,u,h1,h2,h5,h6,h7⟩
 ·omega
 ·omega
theorem Ats.fine {l:List Nd} {st:List (Nat×Nat)} {p:Nat} {td:List Rn} (h:Ats l st p td) {x:Nd} (hx:l[p]? = some x):Tab.fine x=true:=by
 rcases h with h | ⟨y,k,t,u,h1,h2,h5,h6,h7⟩
 ·have:=(List.getElem?_eq_some_iff.1 hx).1
  omega
 ·obtain⟨e,_,_⟩:=drop_get h2
  rw[hx] at e
  injection e with e
  subst e
  exact h1.1
theorem Ats.seq {l:List Nd} {st:List (Nat×Nat)} {p:Nat} {td:List Rn} (h:Ats l st p td) {x:Nd} (hx:l[p]? = some x) (h3:x.k=3):Ats l ((x.n.toNat,0)::st) (p+1) td:=by
 rcases h with h | ⟨y,k,t,u,h1,h2,h5,h6,h7⟩
 ·have:=(List.getElem?_eq_some_iff.1 hx).1
  omega
 ·obtain⟨e,e2,_⟩:=drop_get h2
  rw[hx] at e
  injection e with e
  subst e
  obtain⟨hf,hc,hok,_⟩:=h1
  have hc':k.cnt=x.n.toNat:=by rw[hc];unfold kn;rw[if_pos h3]
  have hn:=fine_one hf
  cases k with
  | nil=>simp only[F.cnt] at hc';omega
  | cons y q r =>
   have e3:x.n.toNat=r.cnt+1:=by rw[← hc'];rfl
   have e4:l.drop (p+1)=y::(q.flat++(r.flat++t)):=by rw[e2];simp[F.flat]
   have e5:l.drop (p+1+1+q.sz)=r.flat++t:=by
    obtain⟨_,e6,_⟩:=drop_get e4
    rw[← List.drop_drop,e6,List.drop_left' (F.flat_length q)]
   simp only[F.dep] at h5
   refine .inr ⟨y,q,r.flat++t,r.lvs++u,⟨hok.1,hok.2.1,hok.2.2.1,trivial⟩,e4,by simp only[List.length_cons];omega,?_,?_⟩
   ·rw[e3]
    exact .seq hok.2.2.2 e5 (by omega) (by have:p+1+1+q.sz+r.sz=p+1+(F.cons y q r).sz:=(by simp only[F.sz];omega);rw[this];exact h6)
   ·rw[h7,lvs_seq h3,F.lvs,List.append_assoc]
theorem Ats.rep {l:List Nd} {st:List (Nat×Nat)} {p:Nat} {td:List Rn} (h:Ats l st p td) {x:Nd} (hx:l[p]? = some x) (h4:x.k=4) (hn2:x.n≤9223372036854775807):Ats l ((x.n.toNat,p+1)::st) (p+1) td:=by
 rcases h with h | ⟨y,k,t,u,h1,h2,h5,h6,h7⟩
 ·have:=(List.getElem?_eq_some_iff.1 hx).1
  omega
 ·obtain⟨e,e2,_⟩:=drop_get h2
  rw[hx] at e
  injection e with e
  subst e
  obtain⟨hf,hc,hok,_⟩:=h1
  have hc':k.cnt=1:=by rw[hc];unfold kn;rw[if_neg (by omega),if_pos h4]
  have hn:=fine_one hf
  cases k with
  | nil=>simp[F.cnt] at hc'
  | cons y q r =>
   obtain rfl:r=.nil:=F.cnt_zero (by simp only[F.cnt] at hc';omega)
   have e4:l.drop (p+1)=y::(q.flat++t):=by rw[e2];simp[F.flat]
   have e6:p+1+(F.cons y q .nil).sz=p+1+1+q.sz:=by simp only[F.sz];omega
   simp only[F.dep] at h5
   rw[e6] at h6
   refine .inr ⟨y,q,t,reps (x.n.toNat - 1) (one y q.lvs)++u,hok,e4,by simp only[List.length_cons];omega,.rep hok (by omega) (by omega) (by omega) e4 (by omega) h6,?_⟩
   rw[h7,lvs_rep h4,reps_one (by omega)]
   simp[F.lvs]
def popm:List (Nat×Nat)→Nat→List (Nat×Nat)×Nat
 | [],p=>([],p)
 |(a,b)::o,p=>if 1 < a then ((a - 1,b)::o,if 0 < b then b else p) else popm o p
theorem popm_more {a b:Nat} (o:List (Nat×Nat)) (p:Nat) (h:1 < a):popm ((a,b)::o) p=((a - 1,b)::o,if 0 < b then b else p):=by simp only[popm];rw[if_pos h]
theorem popm_less {a b:Nat} (o:List (Nat×Nat)) (p:Nat) (h:¬ 1 < a):popm ((a,b)::o) p=popm o p:=by simp only[popm];rw[if_neg h]
theorem Beh.pop {l:List Nd} {st:List (Nat×Nat)} {p:Nat} {td:List Rn} (h:Beh l st p td):Ats l (popm st p).1 (popm st p).2 td:=by
 induction h with
 | top=>exact .inl ⟨rfl,rfl,rfl⟩
 | @seq o p f t td hok hl hd h ih =>
  cases f with
  | nil =>
   rw[popm_less _ _ (by simp[F.cnt])]
   simpa [F.lvs,F.sz] using ih
  | cons y q r =>
   rw[popm_more _ _ (by simp[F.cnt])]
   show Ats l (((F.cons y q r).cnt+1 - 1,0)::o) p _
   have e4:l.drop p=y::(q.flat++(r.flat++t)):=by rw[hl];simp[F.flat]
   have e5:l.drop (p+1+q.sz)=r.flat++t:=by
    obtain⟨_,e6,_⟩:=drop_get e4
    rw[← List.drop_drop,e6,List.drop_left' (F.flat_length q)]
   simp only[F.dep] at hd
   refine .inr ⟨y,q,r.flat++t,r.lvs++td,⟨hok.1,hok.2.1,hok.2.2.1,trivial⟩,e4,by simp only[List.length_cons];omega,?_,by rw[F.lvs,List.append_assoc]⟩
   exact .seq hok.2.2.2 e5 (by omega) (by have:p+1+q.sz+r.sz=p+(F.cons y q r).sz:=(by simp only[F.sz];omega);rw[this];exact h)
 | @rep o a b y k t td hok ha ha2 hb hl hd h ih =>
  by_cases h1:1 < a
  ·rw[popm_more _ _ h1]
   dsimp only
   rw[if_pos (by omega)]
   refine .inr ⟨y,k,t,reps (a - 1 - 1) (one y k.lvs)++td,hok,hl,by simp only[List.length_cons];omega,.rep hok (by omega) (by omega) hb hl hd h,?_⟩
   rw[reps_one (n:=a - 1) (by omega),List.append_assoc]
  ·rw[popm_less _ _ h1]
   have:a - 1=0:=by omega
   rw[this]
   exact ih
theorem Beh.bound {l:List Nd} {st:List (Nat×Nat)} {p:Nat} {td:List Rn} (h:Beh l st p td):∀ e∈st,1≤e.1∧e.1≤max 9223372036854775807 (l.length+1)∧e.2≤l.length:=by
 induction h with
 | top=>simp
 | @seq o p f t td hok hl hd h ih =>
  intro e he
  rcases List.mem_cons.1 he with rfl | he
  ·have h1:=congrArg List.length hl
   rw[List.length_drop,List.length_append,F.flat_length] at h1
   have h2:=F.cnt_le_sz f
   dsimp only
   omega
  ·exact ih e he
 | @rep o a b y k t td hok ha ha2 hb hl hd h ih =>
  intro e he
  rcases List.mem_cons.1 he with rfl | he
  ·have:=(drop_get hl).2.2
   dsimp only
   omega
  ·exact ih e he
theorem Ats.start {x:Nd} {k:F} (hok:(F.cons x k .nil).ok) (hd:k.dep+1≤16):Ats (x::k.flat) [] 0 (one x k.lvs):=by
 refine .inr ⟨x,k,[],[],hok,by simp,by simpa using hd,?_,by simp⟩
 have:(0:Nat)+1+k.sz=(x::k.flat).length:=by simp only[List.length_cons,F.flat_length];omega
 rw[this]
 exact .top
def whoAt:List Rn→Int→Int
 | [],_=>-1
 | r::s,t=>if t < 0 then -1 else if t < r.n then r.p else whoAt s (t - r.n)
theorem whoAt_neg (s:List Rn) (t:Int) (h:t < 0):whoAt s t=-1:=by
 cases s with
 | nil=>rfl
 | cons r s=>simp only[whoAt];rw[if_pos h]
theorem whoAt_out (s:List Rn) (t:Int) (h:(ticks s:Int)≤t):whoAt s t=-1:=by
 induction s generalizing t with
 | nil=>rfl
 | cons r s ih =>
  simp only[ticks] at h
  simp only[whoAt]
  split
  ·rfl
  ·rw[if_neg (by omega)]
   exact ih _ (by omega)
end Tab
namespace Tab
def tpush (out:List Rn) (x:Rn):List Rn:=if x.n=0 then out else match out.getLast? with
 | some y=>if y.p=x.p then out.dropLast++[⟨y.p,y.n+x.n⟩] else out++[x]
 | none=>[x]
def tidyOn (out l:List Rn):List Rn:=l.foldl tpush out
def tidy (l:List Rn):List Rn:=tidyOn [] l
def tkOf (p:Int):List Rn→Nat
 | []=>0
 | r::s=>(if r.p=p then r.n else 0)+tkOf p s
def Apart:List Rn→Prop
 | []=>True
 | [r]=>1≤r.n
 | r::q::s=>1≤r.n∧r.p≠q.p∧Apart (q::s)
theorem tpush_none {out:List Rn} {x:Rn} (h:x.n=0):tpush out x=out:=if_pos h
theorem tpush_nil {x:Rn} (h:x.n≠0):tpush [] x=[x]:=by unfold tpush;rw[if_neg h];rfl
theorem tpush_one {o:List Rn} {y x:Rn} (h:x.n≠0) (hp:y.p=x.p):tpush (o++[y]) x=o++[⟨y.p,y.n+x.n⟩]:=by
 unfold tpush
 rw[if_neg h]
 simp[hp]
theorem tpush_new {o:List Rn} {y x:Rn} (h:x.n≠0) (hp:y.p≠x.p):tpush (o++[y]) x=o++[y]++[x]:=by
 unfold tpush
 rw[if_neg h]
 simp[hp]
theorem tpush_cases (out:List Rn) (x:Rn):(x.n=0∧tpush out x=out)∨(x.n≠0∧out=[]∧tpush out x=[x])∨(∃ o y,x.n≠0∧out=o++[y]∧y.p=x.p∧tpush out x=o++[⟨y.p,y.n+x.n⟩]) ∨
  ∃ o y,x.n≠0∧out=o++[y]∧y.p≠x.p∧tpush out x=out++[x]:=by
 by_cases h:x.n=0
 ·exact .inl ⟨h,tpush_none h⟩
 ·rcases List.eq_nil_or_concat out with rfl | ⟨o,y,rfl⟩
  ·exact .inr (.inl ⟨h,rfl,tpush_nil h⟩)
  ·simp only[List.concat_eq_append]
   by_cases hp:y.p=x.p
   ·exact .inr (.inr (.inl ⟨o,y,h,rfl,hp,tpush_one h hp⟩))
   ·exact .inr (.inr (.inr ⟨o,y,h,rfl,hp,tpush_new h hp⟩))
theorem tidyOn_append (out a b:List Rn):tidyOn out (a++b)=tidyOn (tidyOn out a) b:=List.foldl_append
theorem tidy_more {l:List Rn} {i:Nat} {r:Rn} (h:l[i]? = some r):tidy (l.take (i+1))=tpush (tidy (l.take i)) r:=by
 obtain⟨hi,e⟩:=List.getElem?_eq_some_iff.1 h
 unfold tidy tidyOn
 rw[List.take_succ_eq_append_getElem hi,List.foldl_append,e]
 rfl
theorem tkOf_append (p:Int) (a b:List Rn):tkOf p (a++b)=tkOf p a+tkOf p b:=by
 induction a with
 | nil=>simp[tkOf]
 | cons x a ih=>simp only[List.cons_append,tkOf,ih];omega
theorem tkOf_le (p:Int) (l:List Rn):tkOf p l≤ticks l:=by
 induction l with
 | nil=>simp[tkOf,ticks]
 | cons x a ih=>simp only[tkOf,ticks];split <;> omega
theorem tkOf_push (p:Int) (out:List Rn) (x:Rn):tkOf p (tpush out x)=tkOf p out+if x.p=p then x.n else 0:=by
 rcases tpush_cases out x with ⟨h,e⟩ | ⟨h,rfl,e⟩ | ⟨o,y,h,rfl,hp,e⟩ | ⟨o,y,h,rfl,hp,e⟩
 ·rw[e,h];split <;> rfl
 ·rw[e];simp[tkOf]
 ·rw[e,tkOf_append,tkOf_append]
  simp only[tkOf,hp]
  split <;> omega
 ·rw[e,tkOf_append _ (o++[y])]
  simp only[tkOf]
  omega
theorem tkOf_tidyOn (p:Int) (l:List Rn):∀ out,tkOf p (tidyOn out l)=tkOf p out+tkOf p l:=by
 induction l with
 | nil=>intro out;simp[tidyOn,tkOf]
 | cons x l ih =>
  intro out
  have:=ih (tpush out x)
  unfold tidyOn at this ⊢
  rw[List.foldl_cons,this,tkOf_push]
  simp only[tkOf]
  omega
theorem tkOf_tidy (p:Int) (l:List Rn):tkOf p (tidy l)=tkOf p l:=by
 unfold tidy
 rw[tkOf_tidyOn]
 simp[tkOf]
theorem ticks_push (out:List Rn) (x:Rn):ticks (tpush out x)=ticks out+x.n:=by
 rcases tpush_cases out x with ⟨h,e⟩ | ⟨h,rfl,e⟩ | ⟨o,y,h,rfl,hp,e⟩ | ⟨o,y,h,rfl,hp,e⟩
 ·rw[e,h];rfl
 ·rw[e];simp[ticks]
 ·rw[e,ticks_append,ticks_append]
  simp only[ticks]
  omega
 ·rw[e,ticks_append (o++[y])]
  simp only[ticks]
  omega
theorem ticks_tidyOn (l:List Rn):∀ out,ticks (tidyOn out l)=ticks out+ticks l:=by
 induction l with
 | nil=>intro out;simp[tidyOn,ticks]
 | cons x l ih =>
  intro out
  have:=ih (tpush out x)
  unfold tidyOn at this ⊢
  rw[List.foldl_cons,this,ticks_push]
  simp only[ticks]
  omega
theorem ticks_tidy (l:List Rn):ticks (tidy l)=ticks l:=by
 unfold tidy
 rw[ticks_tidyOn]
 simp[ticks]
theorem whoAt_low (a b:List Rn) (t:Int) (h:t < ticks a):whoAt (a++b) t=whoAt a t:=by
 induction a generalizing t with
 | nil=>simp only[ticks] at h;rw[whoAt_neg _ _ (by omega),whoAt_neg _ _ (by omega)]
 | cons x a ih =>
  simp only[ticks] at h
  simp only[List.cons_append,whoAt]
  split
  ·rfl
  ·split
   ·rfl
   ·exact ih _ (by omega)
theorem whoAt_high (a b:List Rn) (t:Int) (h:(ticks a:Int)≤t):whoAt (a++b) t=whoAt b (t - ticks a):=by
 induction a generalizing t with
 | nil=>simp[ticks]
 | cons x a ih =>
  simp only[ticks] at h
  simp only[List.cons_append,whoAt,ticks]
  rw[if_neg (by omega),if_neg (by omega),ih _ (by omega)]
  congr 1
  omega
theorem whoAt_one (p:Int) (n:Nat) (t:Int) (h:0≤t):whoAt [⟨p,n⟩] t=if t < n then p else -1:=by
 simp only[whoAt]
 rw[if_neg (by omega)]
def Alike (a b:List Rn):Prop:=ticks a=ticks b∧∀ t:Int,0≤t→whoAt a t=whoAt b t
theorem alike_push (out:List Rn) (x:Rn):Alike (tpush out x) (out++[x]):=by
 refine⟨by rw[ticks_push,ticks_append];simp[ticks],fun t ht=>?_⟩
 rcases tpush_cases out x with ⟨h,e⟩ | ⟨h,rfl,e⟩ | ⟨o,y,h,rfl,hp,e⟩ | ⟨o,y,h,rfl,hp,e⟩
 ·rw[e]
  by_cases h1:t < ticks out
  ·rw[whoAt_low _ _ _ h1]
  ·obtain⟨xp,xn⟩:=x
   dsimp only at h
   subst h
   rw[whoAt_high _ _ _ (by omega),whoAt_one _ _ _ (by omega),if_neg (by omega),whoAt_out _ _ (by omega)]
 ·rw[e];rfl
 ·rw[e,List.append_assoc]
  by_cases h1:t < ticks o
  ·rw[whoAt_low _ _ _ h1,whoAt_low _ _ _ h1]
  ·rw[whoAt_high _ _ _ (by omega),whoAt_high _ _ _ (by omega)]
   obtain⟨xp,xn⟩:=x
   obtain⟨yp,yn⟩:=y
   dsimp only at hp h ⊢
   subst hp
   have e1:ticks [⟨yp,yn⟩]=yn:=by simp[ticks]
   rw[whoAt_one _ _ _ (by omega)]
   by_cases h2:t - ticks o < yn
   ·rw[whoAt_low _ _ _ (by rw[e1];exact h2),whoAt_one _ _ _ (by omega),if_pos (by omega),if_pos h2]
   ·rw[whoAt_high _ _ _ (by rw[e1];omega),e1,whoAt_one _ _ _ (by omega)]
    by_cases h3:t - ticks o < ((yn+xn:Nat):Int)
    ·rw[if_pos h3,if_pos (by omega)]
    ·rw[if_neg h3,if_neg (by omega)]
 ·rw[e]
theorem Alike.trans {a b c:List Rn} (h:Alike a b) (k:Alike b c):Alike a c:=⟨h.1.trans k.1,fun t ht=>(h.2 t ht).trans (k.2 t ht)⟩
theorem Alike.back {a b:List Rn} (h:Alike a b) (c:List Rn):Alike (a++c) (b++c):=by
 refine⟨by rw[ticks_append,ticks_append,h.1],fun t ht=>?_⟩
 by_cases h1:t < ticks a
 ·rw[whoAt_low _ _ _ h1,whoAt_low _ _ _ (by rw[← h.1];exact h1),h.2 t ht]
 ·rw[whoAt_high _ _ _ (by omega),whoAt_high _ _ _ (by rw[← h.1];omega),h.1]
theorem alike_tidyOn (l:List Rn):∀ out,Alike (tidyOn out l) (out++l):=by
 induction l with
 | nil=>intro out;simp only[tidyOn,List.foldl_nil,List.append_nil];exact⟨rfl,fun _ _=>rfl⟩
 | cons x l ih =>
  intro out
  have h1:=ih (tpush out x)
  have h2:=(alike_push out x).back l
  rw[List.append_assoc] at h2
  exact h1.trans h2
theorem whoAt_tidy (l:List Rn) (t:Int):whoAt (tidy l) t=whoAt l t:=by
 by_cases h:0≤t
 ·have:=(alike_tidyOn l []).2 t h
  simpa [tidy] using this
 ·rw[whoAt_neg _ _ (by omega),whoAt_neg _ _ (by omega)]
theorem Apart.pos {l:List Rn} (h:Apart l):∀ r∈l,1≤r.n:=by
 induction l with
 | nil=>simp
 | cons r l ih =>
  cases l with
  | nil=>intro q hq;simp at hq;subst hq;exact h
  | cons q s =>
   intro y hy
   rcases List.mem_cons.1 hy with rfl | hy
   ·exact h.1
   ·exact ih h.2.2 y hy
theorem Apart.snoc {o:List Rn} {y x:Rn} (h:Apart (o++[y])) (hx:1≤x.n) (hp:y.p≠x.p):Apart (o++[y]++[x]):=by
 induction o with
 | nil=>exact⟨h,hp,hx⟩
 | cons r o ih =>
  cases o with
  | nil=>exact⟨h.1,h.2.1,ih h.2.2⟩
  | cons q s=>exact⟨h.1,h.2.1,ih h.2.2⟩
theorem Apart.more {o:List Rn} {y:Rn} (h:Apart (o++[y])) (k:Nat):Apart (o++[⟨y.p,y.n+k⟩]):=by
 induction o with
 | nil=>have h':1≤y.n:=h;show 1≤y.n+k;omega
 | cons r o ih =>
  cases o with
  | nil=>exact⟨h.1,h.2.1,ih h.2.2⟩
  | cons q s=>exact⟨h.1,h.2.1,ih h.2.2⟩
theorem Apart.push {out:List Rn} (h:Apart out) (x:Rn):Apart (tpush out x):=by
 rcases tpush_cases out x with ⟨h0,e⟩ | ⟨h0,rfl,e⟩ | ⟨o,y,h0,rfl,hp,e⟩ | ⟨o,y,h0,rfl,hp,e⟩
 ·rw[e];exact h
 ·rw[e];show 1≤x.n;omega
 ·rw[e];exact h.more _
 ·rw[e];exact h.snoc (by omega) hp
theorem tidyOn_apart (l:List Rn):∀ out,Apart out→Apart (tidyOn out l):=by
 induction l with
 | nil=>intro out h;exact h
 | cons x l ih=>intro out h;exact ih _ (h.push x)
theorem tidy_apart (l:List Rn):Apart (tidy l):=tidyOn_apart l [] trivial
theorem Apart.at_ {l:List Rn} (h:Apart l) {i:Nat} {r q:Rn} (hr:l[i]? = some r) (hq:l[i+1]? = some q):r.p≠q.p:=by
 induction l generalizing i with
 | nil=>simp at hr
 | cons x l ih =>
  cases l with
  | nil=>simp at hq
  | cons y s =>
   cases i with
   | zero=>simp at hr hq;subst hr;subst hq;exact h.2.1
   | succ i=>exact ih h.2.2 (by simpa using hr) (by simpa using hq)
theorem tidyOn_stays (l:List Rn):∀ out,Apart (out++l)→tidyOn out l=out++l:=by
 induction l with
 | nil=>intro out _;simp[tidyOn]
 | cons x l ih =>
  intro out h
  have e:tpush out x=out++[x]:=by
   have hx:x.n≠0:=by have:=h.pos x (by simp);omega
   rcases List.eq_nil_or_concat out with rfl | ⟨o,y,rfl⟩
   ·exact tpush_nil hx
   ·simp only[List.concat_eq_append] at h ⊢
    refine tpush_new hx (h.at_ (i:=o.length) ?_ ?_)
    ·rw[List.append_assoc,List.getElem?_append_right (Nat.le_refl _)];simp
    ·rw[List.append_assoc,List.getElem?_append_right (by omega)];simp
  have:=ih (out++[x]) (by rw[List.append_assoc];exact h)
  show tidyOn (tpush out x) l=_
  rw[e,this,List.append_assoc]
  rfl
theorem tidy_tidy (l:List Rn):tidy (tidy l)=tidy l:=by
 have:=tidyOn_stays (tidy l) [] (by simpa using tidy_apart l)
 simpa [tidy] using this
theorem tpush_le (out:List Rn) (x:Rn):(tpush out x).length≤out.length+1∧out.length≤(tpush out x).length:=by
 rcases tpush_cases out x with ⟨h0,e⟩ | ⟨h0,rfl,e⟩ | ⟨o,y,h0,rfl,hp,e⟩ | ⟨o,y,h0,rfl,hp,e⟩ <;> rw[e] <;> simp
theorem tidyOn_le (l:List Rn):∀ out,(tidyOn out l).length≤out.length+l.length:=by
 induction l with
 | nil=>intro out;simp[tidyOn]
 | cons x l ih =>
  intro out
  have h1:=ih (tpush out x)
  have h2:=(tpush_le out x).1
  simp only[List.length_cons]
  show (tidyOn (tpush out x) l).length≤_
  omega
theorem tidy_le (l:List Rn):(tidy l).length≤l.length:=by
 have:=tidyOn_le l []
 simpa [tidy] using this
theorem tidy_take_le (l:List Rn) (i:Nat):(tidy (l.take i)).length≤i:=by
 have:=tidy_le (l.take i)
 rw[List.length_take] at this
 omega
theorem tpush_two (o:List Rn) (y x:Rn) (hy:y.n≠0) (hp:y.p=x.p):tpush (tpush o y) x=tpush o ⟨y.p,y.n+x.n⟩:=by
 by_cases hx:x.n=0
 ·rw[tpush_none hx]
  obtain⟨yp,yn⟩:=y
  dsimp only at hp ⊢
  rw[hx]
  rfl
 ·have hz:(⟨y.p,y.n+x.n⟩:Rn).n≠0:=by dsimp only;omega
  rcases tpush_cases o y with ⟨h0,e⟩ | ⟨h0,rfl,e⟩ | ⟨q,z,h0,rfl,hq,e⟩ | ⟨q,z,h0,rfl,hq,e⟩
  ·exact absurd h0 hy
  ·rw[e,tpush_nil hz]
   exact tpush_one (o:=[]) hx hp
  ·rw[e,tpush_one hx (by dsimp only;rw[hq,hp]),tpush_one hz hq]
   dsimp only
   rw[Nat.add_assoc]
  ·rw[e,tpush_one (o:=q++[z]) hx hp,tpush_new (o:=q) hz hq]
def swi:List Rn→Nat
 | []=>0
 | r::s=>(if r.p=-1 then 0 else 1)+swi s
theorem swi_append (a b:List Rn):swi (a++b)=swi a+swi b:=by
 induction a with
 | nil=>simp[swi]
 | cons x a ih=>simp only[List.cons_append,swi,ih];omega
theorem swi_le (l:List Rn):swi l≤l.length:=by
 induction l with
 | nil=>simp[swi]
 | cons x l ih=>simp only[swi,List.length_cons];split <;> omega
theorem swi_take (l:List Rn) (i:Nat):swi (l.take i)≤i:=by
 have:=swi_le (l.take i)
 rw[List.length_take] at this
 omega
theorem swi_more {l:List Rn} {i:Nat} {r:Rn} (h:l[i]? = some r):swi (l.take (i+1))=swi (l.take i)+if r.p=-1 then 0 else 1:=by
 obtain⟨hi,e⟩:=List.getElem?_eq_some_iff.1 h
 rw[List.take_succ_eq_append_getElem hi,swi_append,e]
 simp[swi]
theorem tkOf_more {p:Int} {l:List Rn} {i:Nat} {r:Rn} (h:l[i]? = some r):tkOf p (l.take (i+1))=tkOf p (l.take i)+if r.p=p then r.n else 0:=by
 obtain⟨hi,e⟩:=List.getElem?_eq_some_iff.1 h
 rw[List.take_succ_eq_append_getElem hi,tkOf_append,e]
 simp[tkOf]
theorem tpush_part {out:List Rn} {x r:Rn} (h:r∈tpush out x):r.p=x.p∨∃ q∈out,q.p=r.p:=by
 rcases tpush_cases out x with ⟨h0,e⟩ | ⟨h0,rfl,e⟩ | ⟨q,y,h0,rfl,hq,e⟩ | ⟨q,y,h0,rfl,hq,e⟩
 ·rw[e] at h;exact .inr ⟨r,h,rfl⟩
 ·rw[e] at h;simp at h;subst h;exact .inl rfl
 ·rw[e] at h
  rcases List.mem_append.1 h with h | h
  ·exact .inr ⟨r,by simp[h],rfl⟩
  ·simp at h;subst h;exact .inl hq
 ·rw[e] at h
  rcases List.mem_append.1 h with h | h
  ·exact .inr ⟨r,h,rfl⟩
  ·simp at h;subst h;exact .inl rfl
theorem tidyOn_part (l:List Rn):∀ out,∀ r∈tidyOn out l,(∃ q∈out,q.p=r.p)∨∃ q∈l,q.p=r.p:=by
 induction l with
 | nil=>intro out r h;exact .inl ⟨r,h,rfl⟩
 | cons x l ih =>
  intro out r h
  rcases ih (tpush out x) r h with ⟨q,hq,e⟩ | ⟨q,hq,e⟩
  ·rcases tpush_part hq with h | ⟨z,hz,e2⟩
   ·exact .inr ⟨x,by simp,by rw[← h,e]⟩
   ·exact .inl ⟨z,hz,by rw[e2,e]⟩
  ·exact .inr ⟨q,by simp[hq],e⟩
theorem tidy_part {l:List Rn} {r:Rn} (h:r∈tidy l):∃ q∈l,q.p=r.p:=by
 rcases tidyOn_part l [] r h with ⟨q,hq,_⟩ | h
 ·simp at hq
 ·exact h
theorem mem_ticks {l:List Rn} {r:Rn} (h:r∈l):r.n≤ticks l:=by
 induction l with
 | nil=>simp at h
 | cons x l ih =>
  simp only[ticks]
  rcases List.mem_cons.1 h with rfl | h
  ·omega
  ·have:=ih h;omega
theorem one_parts {x:Nd} {s:List Rn} (hf:fine x=true) (h:∀ r∈s,-1≤r.p∧r.p≤5):∀ r∈one x s,-1≤r.p∧r.p≤5:=by
 intro r hr
 unfold one at hr
 split at hr
 ·exact h r hr
 ·split at hr
  ·exact h r (reps_mem hr)
  ·simp at hr
   subst hr
   unfold fine at hf
   unfold whose
   dsimp only
   simp only[Bool.and_eq_true,decide_eq_true_eq] at hf
   rename_i h3 h4
   split
   ·omega
   ·have h5:=hf.2
    rename_i h2
    by_cases h1:x.k=1
    ·rw[if_pos h1] at h5
     simp at h5
     omega
    ·rw[if_neg h1] at h5
     simp[h2,h3,h4] at h5
theorem lvs_parts {f:F} (h:f.ok):∀ r∈f.lvs,-1≤r.p∧r.p≤5:=by
 induction f with
 | nil=>intro r hr;simp[F.lvs] at hr
 | cons x k r hk hr =>
  intro q hq
  rcases List.mem_append.1 hq with hq | hq
  ·exact one_parts h.1 (hk h.2.2.1) q hq
  ·exact hr h.2.2.2 q hq
end Tab
namespace Tab
def sees (a b:Int) (r:Rn):Bool:=decide (r.p=a) || decide (r.p=b)
def prj (a b:Int) (l:List Rn):List Rn:=l.filter (sees a b)
def proj (a b:Int) (l:List Rn):List Rn:=tidy (prj a b l)
theorem prj_append (a b:Int) (l m:List Rn):prj a b (l++m)=prj a b l++prj a b m:=List.filter_append ..
theorem prj_le (a b:Int) (l:List Rn):(prj a b l).length≤l.length:=List.length_filter_le ..
theorem ticks_filter (f:Rn→Bool) (l:List Rn):ticks (l.filter f)≤ticks l:=by
 induction l with
 | nil=>simp
 | cons x l ih =>
  rw[List.filter_cons]
  split
  ·simp only[ticks] at ih ⊢;omega
  ·simp only[ticks] at ih ⊢;omega
theorem prj_more {a b:Int} {l:List Rn} {i:Nat} {r:Rn} (h:l[i]? = some r):prj a b (l.take (i+1))=if sees a b r=true then prj a b (l.take i)++[r] else prj a b (l.take i):=by
 obtain⟨hi,e⟩:=List.getElem?_eq_some_iff.1 h
 rw[List.take_succ_eq_append_getElem hi,e,prj_append]
 unfold prj
 rw[List.filter_cons]
 split <;> simp
theorem tidy_filter_push (f:Rn→Bool) (hf:∀ x y:Rn,x.p=y.p→f x=f y) (out:List Rn) (x:Rn):tidy ((tpush out x).filter f)=if f x=true then tpush (tidy (out.filter f)) x else tidy (out.filter f):=by
 rcases tpush_cases out x with ⟨h0,e⟩ | ⟨h0,rfl,e⟩ | ⟨o,y,h0,rfl,hp,e⟩ | ⟨o,y,h0,rfl,hp,e⟩
 ·rw[e]
  split
  ·rw[tpush_none h0]
  ·rfl
 ·rw[e]
  by_cases hx:f x=true
  ·rw[if_pos hx,List.filter_cons,if_pos hx]
   rfl
  ·rw[if_neg hx,List.filter_cons,if_neg hx]
 ·rw[e]
  have e1:f ⟨y.p,y.n+x.n⟩=f x:=hf _ _ hp
  have e2:f y=f x:=hf _ _ hp
  rw[List.filter_append,List.filter_append,List.filter_cons,List.filter_cons,e1,e2]
  by_cases hx:f x=true
  ·rw[if_pos hx,if_pos hx,if_pos hx]
   simp only[List.filter_nil]
   have h1:∀(a:List Rn) (r:Rn),tidy (a++[r])=tpush (tidy a) r:=fun a r=>by unfold tidy;rw[tidyOn_append];rfl
   rw[h1,h1]
   by_cases hy:y.n=0
   ·rw[tpush_none hy]
    congr 1
    cases x with
    | mk xp xn =>
     simp only at hp ⊢
     rw[hy,Nat.zero_add,hp]
   ·exact(tpush_two _ _ _ hy hp).symm
  ·rw[if_neg hx,if_neg hx,if_neg hx]
 ·rw[e,List.filter_append _ [x]]
  by_cases hx:f x=true
  ·rw[if_pos hx,List.filter_cons,if_pos hx]
   simp only[List.filter_nil]
   unfold tidy
   rw[tidyOn_append]
   rfl
  ·rw[if_neg hx,List.filter_cons,if_neg hx]
   simp
theorem tidy_filter_tidyOn (f:Rn→Bool) (hf:∀ x y:Rn,x.p=y.p→f x=f y) (l:List Rn):∀ out,tidy ((tidyOn out l).filter f)=tidyOn (tidy (out.filter f)) (l.filter f):=by
 induction l with
 | nil=>intro out;rfl
 | cons x l ih =>
  intro out
  have e:tidyOn out (x::l)=tidyOn (tpush out x) l:=rfl
  rw[e,ih,tidy_filter_push f hf,List.filter_cons]
  split <;> rfl
theorem sees_part (a b:Int) (x y:Rn) (h:x.p=y.p):sees a b x=sees a b y:=by unfold sees;rw[h]
theorem proj_tidy (a b:Int) (l:List Rn):proj a b (tidy l)=proj a b l:=by
 have:=tidy_filter_tidyOn (sees a b) (sees_part a b) l []
 exact this
def SameW (D:Int→Int→Bool) (x y:List Rn):Prop:=(∀ a b:Nat,a≤b→b < 6→D a b=true→proj a b x=proj a b y)∧tkOf (-1) x=tkOf (-1) y
theorem SameW.refl (D:Int→Int→Bool) (x:List Rn):SameW D x x:=⟨fun _ _ _ _ _=>rfl,rfl⟩
theorem SameW.symm {D:Int→Int→Bool} {x y:List Rn} (h:SameW D x y):SameW D y x:=⟨fun a b h1 h2 h3=>(h.1 a b h1 h2 h3).symm,h.2.symm⟩
theorem SameW.trans {D:Int→Int→Bool} {x y z:List Rn} (h:SameW D x y) (k:SameW D y z):SameW D x z:=⟨fun a b h1 h2 h3=>(h.1 a b h1 h2 h3).trans (k.1 a b h1 h2 h3),h.2.trans k.2⟩
theorem SameW.less {D E:Int→Int→Bool} {x y:List Rn} (h:SameW E x y) (hDE:∀ a b,D a b=true→E a b=true):SameW D x y:=⟨fun a b h1 h2 h3=>h.1 a b h1 h2 (hDE _ _ h3),h.2⟩
theorem SameW.tidied (D:Int→Int→Bool) (x:List Rn):SameW D x (tidy x):=⟨fun a b _ _ _=>(proj_tidy _ _ _).symm,(tkOf_tidy _ _).symm⟩
def swapAt (l:List Rn) (k:Nat):List Rn:=match l[k]?,l[k+1]? with
 | some x,some y=>(l.set k y).set (k+1) x
 | _,_=>l
theorem split_two {l:List Rn} {k:Nat} {x y:Rn} (hx:l[k]? = some x) (hy:l[k+1]? = some y):l=l.take k++x::y::l.drop (k+2):=by
 obtain⟨h1,e1⟩:=List.getElem?_eq_some_iff.1 hx
 obtain⟨h2,e2⟩:=List.getElem?_eq_some_iff.1 hy
 conv=>lhs;rw[← List.take_append_drop k l]
 rw[List.drop_eq_getElem_cons h1,List.drop_eq_getElem_cons h2,e1,e2]
theorem swap_two {l:List Rn} {k:Nat} {x y:Rn} (hx:l[k]? = some x) (hy:l[k+1]? = some y):swapAt l k=l.take k++y::x::l.drop (k+2):=by
 unfold swapAt
 rw[hx,hy]
 obtain⟨h1,e1⟩:=List.getElem?_eq_some_iff.1 hx
 have hl:(l.take k).length=k:=by rw[List.length_take];omega
 show (l.set k y).set (k+1) x=_
 conv=>lhs;rw[split_two hx hy]
 rw[List.set_append_right _ _ (by omega),List.set_append_right _ _ (by omega),hl,Nat.sub_self,Nat.add_sub_cancel_left]
 rfl
def freeW (D:Int→Int→Bool) (p q:Int):Prop:=p=-1∨q=-1∨(p≠q∧D p q=false)
theorem sees_iff {a b:Int} {x:Rn}:sees a b x=true↔x.p=a∨x.p=b:=by simp[sees]
theorem SameW.told {D:Int→Int→Bool} (hD:∀ a b,D a b=D b a) {l:List Rn} {k:Nat} {x y:Rn} (hx:l[k]? = some x) (hy:l[k+1]? = some y) (px:0≤x.p∧x.p < 6) (py:0≤y.p∧y.p < 6) (nx:1≤x.n) (ny:1≤y.n) (hne:x.p≠y.p) (hd:D x.p y.p=true):¬ SameW D l (swapAt l k):=by
 intro h
 obtain⟨a,b,hab,hb6,hda,s1,s2⟩:∃ a b:Nat,a≤b∧b < 6∧D a b=true∧sees a b x=true∧sees a b y=true:=by
  by_cases hle:x.p≤y.p
  ·refine⟨x.p.toNat,y.p.toNat,by omega,by omega,?_,sees_iff.2 (.inl (by omega)),sees_iff.2 (.inr (by omega))⟩
   rw[show ((x.p.toNat:Nat):Int)=x.p by omega,show ((y.p.toNat:Nat):Int)=y.p by omega]
   exact hd
  ·refine⟨y.p.toNat,x.p.toNat,by omega,by omega,?_,sees_iff.2 (.inr (by omega)),sees_iff.2 (.inl (by omega))⟩
   rw[show ((x.p.toNat:Nat):Int)=x.p by omega,show ((y.p.toNat:Nat):Int)=y.p by omega,hD]
   exact hd
 have e:=h.1 a b hab hb6 hda
 have e2:=congrArg (fun m=>whoAt m (ticks (prj a b (l.take k)):Int)) e
 unfold proj at e2
 rw[whoAt_tidy,whoAt_tidy,swap_two hx hy] at e2
 have e3:prj a b l=prj a b (l.take k)++(x::y::prj a b (l.drop (k+2))):=by
  conv=>lhs;rw[split_two hx hy]
  rw[prj_append]
  unfold prj
  rw[List.filter_cons,if_pos s1,List.filter_cons,if_pos s2]
 have e4:prj a b (l.take k++y::x::l.drop (k+2))=prj a b (l.take k)++(y::x::prj a b (l.drop (k+2))):=by
  rw[prj_append]
  unfold prj
  rw[List.filter_cons,if_pos s2,List.filter_cons,if_pos s1]
 rw[e3,e4,whoAt_high _ _ _ (by omega),whoAt_high _ _ _ (by omega),Int.sub_self] at e2
 have w1:∀(u:Rn) (m:List Rn),1≤u.n→whoAt (u::m) 0=u.p:=fun u m hu=>by
  have e5:u::m=[u]++m:=rfl
  rw[e5,whoAt_low _ _ _ (by simp only[ticks];omega),show [u]=[⟨u.p,u.n⟩] from rfl,whoAt_one _ _ _ (by omega),if_pos (by omega)]
 rw[w1 x _ nx,w1 y _ ny] at e2
 exact hne e2
def pairs6:List (Nat×Nat):=(List.range 6).flatMap fun a=>(List.range 6).filterMap fun b=>if a≤b then some (a,b) else none
end Tab
namespace Tab
def wayB (D:Int→Int→Bool) (p:Int) (z:Rn):Bool:=decide (z.p=p) || (decide (p≠-1) && (decide (z.p≠-1) && D p z.p))
theorem wayB_no {D:Int→Int→Bool} {p:Int} {z:Rn} (h:wayB D p z=false):z.p≠p∧(p=-1∨z.p=-1∨D p z.p=false):=by
 unfold wayB at h
 rw[Bool.or_eq_false_iff] at h
 refine⟨of_decide_eq_false h.1,?_⟩
 by_cases h1:p=-1
 ·exact .inl h1
 ·by_cases h2:z.p=-1
  ·exact .inr (.inl h2)
  ·have h3:=h.2
   rw[decide_eq_true (show p≠-1 from h1),decide_eq_true (show z.p≠-1 from h2)] at h3
   exact .inr (.inr (by simpa using h3))
def mid (L:List Rn) (i j:Nat):List Rn:=(L.drop (i+1)).take (j - (i+1))
def mayB (D:Int→Int→Bool) (L:List Rn) (i j:Nat):Bool:=match L[i]?,L[j]? with
 | some x,some y=>decide (i < j) && (decide (x.p=y.p) && !(mid L i j).any (wayB D x.p))
 | _,_=>false
def mv (L:List Rn) (i j:Nat) (right:Bool):List Rn:=match L[i]?,L[j]? with
 | some x,some y=>if right then (L.set j ⟨y.p,y.n+x.n⟩).set i ⟨x.p,0⟩ else (L.set i ⟨x.p,y.n+x.n⟩).set j ⟨y.p,0⟩
 | _,_=>L
theorem split_far {L:List Rn} {i j:Nat} {x y:Rn} (hij:i < j) (hx:L[i]? = some x) (hy:L[j]? = some y):L=L.take i++x::(mid L i j++y::L.drop (j+1)):=by
 obtain⟨h1,e1⟩:=List.getElem?_eq_some_iff.1 hx
 obtain⟨h2,e2⟩:=List.getElem?_eq_some_iff.1 hy
 conv=>lhs;rw[← List.take_append_drop i L,List.drop_eq_getElem_cons h1,e1]
 congr 2
 unfold mid
 conv=>lhs;rw[← List.take_append_drop (j - (i+1)) (L.drop (i+1)),List.drop_drop,show i+1+(j - (i+1))=j by omega,List.drop_eq_getElem_cons h2,e2]
theorem mid_len {L:List Rn} {i j:Nat} (hij:i < j) (hj:j < L.length):(mid L i j).length=j - (i+1):=by
 unfold mid
 rw[List.length_take,List.length_drop]
 omega
theorem mv_split {L:List Rn} {i j:Nat} {x y:Rn} (hij:i < j) (hx:L[i]? = some x) (hy:L[j]? = some y) (right:Bool) :
  mv L i j right=L.take i++(⟨x.p,if right then 0 else y.n+x.n⟩:Rn)::(mid L i j++(⟨y.p,if right then y.n+x.n else 0⟩:Rn)::L.drop (j+1)):=by
 obtain⟨h1,e1⟩:=List.getElem?_eq_some_iff.1 hx
 obtain⟨h2,e2⟩:=List.getElem?_eq_some_iff.1 hy
 have hl:(L.take i).length=i:=by rw[List.length_take];omega
 have hm:=mid_len hij h2
 have key:∀ u v:Rn,(L.set i u).set j v=L.take i++u::(mid L i j++v::L.drop (j+1)):=fun u v=>by
  conv=>lhs;rw[split_far hij hx hy]
  rw[List.set_append_right _ _ (by omega),hl,Nat.sub_self,List.set_cons_zero,List.set_append_right _ _ (by omega),hl]
  obtain⟨d,hd⟩:∃ d,j - i=d+1:=⟨j - i - 1,by omega⟩
  rw[hd,List.set_cons_succ,List.set_append_right _ _ (by rw[hm];omega),hm,show d - (j - (i+1))=0 by omega,List.set_cons_zero]
 unfold mv
 rw[hx,hy]
 cases right with
 | false=>exact key _ _
 | true =>
  simp only[if_true]
  rw[List.set_comm _ _ (by omega)]
  exact key _ _
theorem tpush_join (out:List Rn) (p:Int) (a b:Nat):tpush (tpush out ⟨p,a⟩) ⟨p,b⟩=tpush out ⟨p,a+b⟩:=by
 by_cases ha:a=0
 ·subst ha
  rw[tpush_none (out:=out) (x:=⟨p,0⟩) rfl,Nat.zero_add]
 ·exact tpush_two out ⟨p,a⟩ ⟨p,b⟩ ha rfl
theorem tidy_join (X Y:List Rn) (p:Int) (a b:Nat):tidy (X++⟨p,a⟩::⟨p,b⟩::Y)=tidy (X++⟨p,a+b⟩::Y):=by
 unfold tidy
 rw[tidyOn_append,tidyOn_append]
 show tidyOn (tpush (tpush _ _) _) Y=tidyOn (tpush _ _) Y
 rw[tpush_join]
theorem prj_cons (a b:Int) (x:Rn) (l:List Rn):prj a b (x::l)=if sees a b x=true then x::prj a b l else prj a b l:=by
 unfold prj
 rw[List.filter_cons]
theorem prj_none {a b:Int} {l:List Rn} (h:∀ z∈l,sees a b z=false):prj a b l=[]:=by
 unfold prj
 rw[List.filter_eq_nil_iff]
 intro z hz
 rw[h z hz]
 decide
theorem SameW.move {D:Int→Int→Bool} (hD:∀ a b,D a b=D b a) {X M Y:List Rn} {p:Int} {m n a b:Nat} (hs:m+n=a+b) (hM:∀ z∈M,wayB D p z=false) :
  SameW D (X++⟨p,m⟩::(M++⟨p,n⟩::Y)) (X++⟨p,a⟩::(M++⟨p,b⟩::Y)):=by
 refine⟨fun u v huv hv hd=>?_,?_⟩
 ·unfold proj
  rw[prj_append,prj_append,prj_cons,prj_cons]
  cases hp:sees u v ⟨p,m⟩ with
  | false =>
   have h2:sees u v ⟨p,a⟩=false:=by rw[← hp];exact sees_part _ _ _ _ rfl
   have h3:sees u v ⟨p,n⟩=false:=by rw[← hp];exact sees_part _ _ _ _ rfl
   have h4:sees u v ⟨p,b⟩=false:=by rw[← hp];exact sees_part _ _ _ _ rfl
   rw[h2]
   simp only[Bool.false_eq_true,if_false]
   rw[prj_append,prj_append,prj_cons,prj_cons,h3,h4]
   rfl
  | true =>
   have h2:sees u v ⟨p,a⟩=true:=by rw[← hp];exact sees_part _ _ _ _ rfl
   have h3:sees u v ⟨p,n⟩=true:=by rw[← hp];exact sees_part _ _ _ _ rfl
   have h4:sees u v ⟨p,b⟩=true:=by rw[← hp];exact sees_part _ _ _ _ rfl
   have hpu:p=u∨p=v:=sees_iff.1 hp
   have hno:prj u v M=[]:=prj_none fun z hz=>by
    obtain⟨h5,h6⟩:=wayB_no (hM z hz)
    cases hzs:sees u v z with
    | false=>rfl
    | true =>
     exfalso
     have hzu:z.p=u∨z.p=v:=sees_iff.1 hzs
     rcases h6 with h6 | h6 | h6
     ·rcases hpu with e | e <;> omega
     ·rcases hzu with e | e <;> omega
     ·rcases hpu with e | e
      ·rcases hzu with e2 | e2
       ·exact h5 (e2.trans e.symm)
       ·rw[e,e2,hd] at h6;cases h6
      ·rcases hzu with e2 | e2
       ·rw[e,e2,hD,hd] at h6;cases h6
       ·exact h5 (e2.trans e.symm)
   rw[h2]
   simp only[if_true]
   rw[prj_append,prj_append,prj_cons,prj_cons,h3,h4,hno]
   simp only[if_true,List.nil_append]
   rw[tidy_join,tidy_join,hs]
 ·rw[tkOf_append,tkOf_append]
  simp only[tkOf]
  rw[tkOf_append,tkOf_append]
  simp only[tkOf]
  split <;> omega
theorem tk_move (q:Int) {X M Y:List Rn} {p:Int} {m n a b:Nat} (hs:m+n=a+b):tkOf q (X++⟨p,m⟩::(M++⟨p,n⟩::Y))=tkOf q (X++⟨p,a⟩::(M++⟨p,b⟩::Y)):=by
 rw[tkOf_append,tkOf_append]
 simp only[tkOf]
 rw[tkOf_append,tkOf_append]
 simp only[tkOf]
 split <;> omega
theorem mayB_iff {D:Int→Int→Bool} {L:List Rn} {i j:Nat} {x y:Rn} (hx:L[i]? = some x) (hy:L[j]? = some y):mayB D L i j=true↔i < j∧x.p=y.p∧∀ z∈mid L i j,wayB D x.p z=false:=by
 unfold mayB
 rw[hx,hy]
 simp only[Bool.and_eq_true,decide_eq_true_eq,Bool.not_eq_true']
 rw[List.any_eq_false]
 simp
theorem mv_same {D:Int→Int→Bool} (hD:∀ a b,D a b=D b a) {L:List Rn} {i j:Nat} (h:mayB D L i j=true) (right:Bool):SameW D L (tidy (mv L i j right)):=by
 cases hx:L[i]? with
 | none=>unfold mayB at h;rw[hx] at h;cases h
 | some x =>
  cases hy:L[j]? with
  | none=>unfold mayB at h;rw[hx,hy] at h;cases h
  | some y =>
   obtain⟨hij,hp,hM⟩:=(mayB_iff hx hy).1 h
   refine SameW.trans ?_ (SameW.tidied D _)
   rw[mv_split hij hx hy]
   conv=>lhs;rw[split_far hij hx hy]
   obtain⟨xp,xn⟩:=x
   obtain⟨yp,yn⟩:=y
   dsimp only at hp hM ⊢
   subst hp
   exact SameW.move hD (by cases right <;> simp <;> omega) hM
theorem mv_tk {L:List Rn} {i j:Nat} {x y:Rn} (hij:i < j) (hx:L[i]? = some x) (hy:L[j]? = some y) (hp:x.p=y.p) (right:Bool) (q:Int):tkOf q (mv L i j right)=tkOf q L:=by
 rw[mv_split hij hx hy]
 conv=>rhs;rw[split_far hij hx hy]
 obtain⟨xp,xn⟩:=x
 obtain⟨yp,yn⟩:=y
 dsimp only at hp ⊢
 subst hp
 exact tk_move q (by cases right <;> simp <;> omega)
theorem mv_len (L:List Rn) (i j:Nat) (right:Bool):(mv L i j right).length=L.length:=by
 unfold mv
 split
 ·split <;> simp
 ·rfl
theorem tidy_drop0 (X Y:List Rn) (p:Int):tidy (X++⟨p,0⟩::Y)=tidy (X++Y):=by
 unfold tidy
 rw[tidyOn_append,tidyOn_append]
 show tidyOn (tpush _ _) Y=_
 rw[tpush_none rfl]
theorem mv_less {L:List Rn} {i j:Nat} {x y:Rn} (hij:i < j) (hx:L[i]? = some x) (hy:L[j]? = some y) (right:Bool):(tidy (mv L i j right)).length < L.length:=by
 have hl:L.length=(L.take i++x::(mid L i j++y::L.drop (j+1))).length:=congrArg List.length (split_far hij hx hy)
 rw[mv_split hij hx hy]
 cases right with
 | true =>
  simp only[if_true]
  rw[tidy_drop0]
  refine Nat.lt_of_le_of_lt (tidy_le _) ?_
  rw[hl]
  simp only[List.length_append,List.length_cons]
  omega
 | false =>
  simp only[Bool.false_eq_true,if_false]
  have e:L.take i++(⟨x.p,y.n+x.n⟩:Rn)::(mid L i j++(⟨y.p,0⟩:Rn)::L.drop (j+1))=(L.take i++(⟨x.p,y.n+x.n⟩:Rn)::mid L i j)++(⟨y.p,0⟩:Rn)::L.drop (j+1):=by simp
  rw[e,tidy_drop0]
  refine Nat.lt_of_le_of_lt (tidy_le _) ?_
  rw[hl]
  simp only[List.length_append,List.length_cons]
  omega
end Tab
end Go.Proofs.YtfddpnhaejkacaaGreat
namespace Go.Proofs.YtfddpnhaejkacaaGreat
open Go.RowKit Tab
open Lib (hid)
theorem more_any (s n S N:Int) (w:World) (hs:0≤s) (hn:0≤n) (h:s+n≤4611686018427387904) (hS:S=s) (hN:N=n) :
  Calls Tryz.prog 102 #[.int .i64 S,.int .i64 N] w fun e w'=>e=.returned (.int .i64 (s+n))∧w'=w:=by
 subst hS;subst hN
 by_cases h0:N < 1
 ·have e:N=0:=by omega
  subst e
  go_enter Tryz.func102,Tryz.ntmps102
  go_wp2
  go_ret
  exact⟨by simp,rfl⟩
 ·have h1:¬ 9223372036854775807 - N < S:=by omega
  go_enter Tryz.func102,Tryz.ntmps102
  go_wp2
  go_ret
  exact⟨rfl,rfl⟩
theorem sum_any (s n S N:Int) (w:World) (hs:0≤s) (hn:0≤n) (h:s+n≤4611686018427387904) (hS:S=s) (hN:N=n) :
  Calls Tryz.prog 48 #[.int .i64 S,.int .i64 N] w fun e w'=>e=.returned (.int .i64 (s+n))∧w'=w:=by
 subst hS;subst hN
 have h1:¬ 9223372036854775807 - N < S:=by omega
 have m1:max S 0=S:=by omega
 have m2:max N 0=N:=by omega
 go_enter Tryz.func48,Tryz.ntmps48
 go_wp2
 go_ret
 exact⟨rfl,rfl⟩
theorem elR:Elt 33 75 2 16 (.agg #[.int .i64 0,.int .i64 0]):=⟨Tryz.underlying33,by kernel_rfl,rfl,by omega⟩
def rs:List Rn→List Value
 | []=>[]
 | r::l=>.int .i64 r.p::.int .i64 (r.n:Int)::rs l
theorem rs_length (l:List Rn):(rs l).length=l.length*2:=by
 induction l with
 | nil=>rfl
 | cons x l ih=>simp only[rs,List.length_cons,ih];omega
theorem rs_append (l m:List Rn):rs (l++m)=rs l++rs m:=by
 induction l with
 | nil=>rfl
 | cons x l ih=>simp[rs,ih]
theorem rs_one (l:List Rn):∀ u∈rs l,u.oneCell'=true:=by
 induction l with
 | nil=>simp[rs]
 | cons x l ih =>
  intro u hu
  simp only[rs,List.mem_cons] at hu
  rcases hu with rfl | rfl | hu
  ·rfl
  ·rfl
  ·exact ih u hu
theorem rs_get (l:List Rn) (i:Nat) (h:i < l.length):(rs l)[i*2]? = some (.int .i64 l[i].p)∧(rs l)[i*2+1]? = some (.int .i64 (l[i].n:Int)):=by
 induction l generalizing i with
 | nil=>simp at h
 | cons x l ih =>
  cases i with
  | zero=>simp[rs]
  | succ i =>
   have:=ih i (by simpa using h)
   have e:(i+1)*2=i*2+1+1:=by omega
   rw[e]
   simp only[rs,List.getElem?_cons_succ,List.getElem_cons_succ]
   exact this
structure RdR (w:World) (B:Nat) (A:Option Addr) (n:Nat) (l:List Rn):Prop where
 len:l.length=n
 rd:RdV w B A (rs l)
section
variable {w w':World} {B B' n:Nat} {A:Option Addr} {l:List Rn}
theorem RdR.below (h:RdR w B A n l) (hb:Below B w w'):RdR w' B A n l:=⟨h.len,h.rd.below hb⟩
theorem RdR.more (h:RdR w B A n l) (hB:B≤B'):RdR w B' A n l:=⟨h.len,h.rd.more hB⟩
theorem RdR.on (h:RdR w w.heap.size A n l) (hb:Below w.heap.size w w'):RdR w' w'.heap.size A n l:=(h.below hb).more hb.size
theorem RdR.gb {b:Nat} (h:RdR w b A n l) (hb:b≤w.heap.size) (hg:w.grownBy w' (some b)):RdR w' b A n l :=
 ⟨h.len,h.rd.keep fun p hp=>World.cell?_of_block (hg.block p.block (by omega) (fun e=>by injection e with e;omega))⟩
theorem RdR.at_ (h:RdR w B A n l) {i:Nat} (hi:i < n):∃(ad:Addr) (r:Rn),A=some ad∧ad.block < B∧l[i]? = some r ∧
  w.cell? (ad.add (i*2))=some (.int .i64 r.p)∧w.cell? ⟨(ad.add (i*2)).block,(ad.add (i*2)).off+1,none⟩=some (.int .i64 (r.n:Int)):=by
 have hl:i < l.length:=by rw[h.len];exact hi
 obtain⟨ad,e,hb,hc⟩:=h.rd (by rw[rs_length];omega)
 obtain⟨h1,h2⟩:=rs_get l i hl
 have e1:(⟨(ad.add (i*2)).block,(ad.add (i*2)).off+1,none⟩:Addr)=ad.add (i*2+1):=by
  rw[← add_add]
  generalize ad.add (i*2)=p
  unfold Addr.add
  rw[if_neg (by omega)]
 exact⟨ad,l[i],e,hb,List.getElem?_eq_getElem hl,hc _ _ h1,by rw[e1];exact hc _ _ h2⟩
end
def obk (A:Option Addr):Option Nat:=A.map (·.block)
theorem ownBlock_obk (A:Option Addr) (n c:Nat):(Value.slice A n c).ownBlock=obk A:=by cases A <;> rfl
structure Grew (A0 A:Option Addr) (w w':World):Prop where
 gb:w.grownBy w' (obk A0)
 at_:obk A=obk A0∨∃ g,obk A=some g∧w.heap.size≤g
theorem Grew.refl (A:Option Addr) (w:World):Grew A A w w:=⟨⟨rfl,rfl,rfl,Nat.le_refl _,fun _ _ _=>rfl⟩,.inl rfl⟩
theorem Grew.trans {A0 A1 A2:Option Addr} {w w1 w2:World} (h:Grew A0 A1 w w1) (k:Grew A1 A2 w1 w2):Grew A0 A2 w w2:=by
 refine⟨⟨k.gb.os.trans h.gb.os,k.gb.tape.trans h.gb.tape,k.gb.output.trans h.gb.output,Nat.le_trans h.gb.size k.gb.size,fun i hi hne=>?_⟩,?_⟩
 ·refine(k.gb.block i (Nat.lt_of_lt_of_le hi h.gb.size) ?_).trans (h.gb.block i hi hne)
  rcases h.at_ with e | ⟨g,e,hg⟩
  ·rw[e];exact hne
  ·rw[e];intro e2;injection e2 with e2;omega
 ·rcases k.at_ with e | ⟨g,e,hg⟩
  ·rw[e];exact h.at_
  ·exact .inr ⟨g,e,Nat.le_trans h.gb.size hg⟩
theorem Grew.bel {A0:Option Addr} {w w':World} (h:Below w.heap.size w w'):Grew A0 A0 w w':=⟨⟨h.os,h.tape,h.output,h.size,fun i hi _=>h.block i hi⟩,.inl rfl⟩
theorem Grew.drew {A0 A:Option Addr} {w w':World} (h:Grew A0 A w.drew w'):Grew A0 A w w':=⟨⟨h.gb.os,h.gb.tape,h.gb.output,h.gb.size,h.gb.block⟩,h.at_⟩
theorem run_appX {T E s b:Nat} {z:Value} (L:Elt T E s b z) (w:World) (B:Nat) (A:Option Addr) (n c:Nat) (l0:List Value) (h:OwnV E s w B A n c l0) (ad:Addr) (m d:Nat) (l:List Value) (Bs:Nat) (hr:RdV w Bs (some ad) l)
  (hl:l.length=m*s) (hm0:0 < m) (h1:∀ u∈l,u.oneCell'=true) (hb:(n+m)*b≤140737488355328) (hm:n+m≤maxLen) (hB:B≤w.heap.size) :
  ∃ A' c' w',(Builtin.append_ #[T,T] T #[.slice A n c,.slice (some ad) m d]).run Tryz.prog w=.ok (.slice A' (n+m) c') w'∧OwnV E s w' B A' (n+m) c' (l0++l)∧Below B w w'∧Grew A A' w w':=by
 obtain⟨i,hi,hz,hs,hby⟩:=info_parts L.hi
 have hpos:0 < l.length:=by rw[hl];exact Nat.mul_pos hm0 L.hs
 obtain⟨ad',e,_,hc⟩:=hr hpos
 injection e with e
 subst e
 obtain⟨v',w',hrun,hown,hgr,hnil,hat⟩:=run_append_own_at (P:=Tryz.prog) w B T T E i z s b L.ht hi hz hs hby L.hz L.hs (.slice A n c) n l0 h ad m d l hl hc h1 hm hb hB
 have hbel:Below B w w':=(Below.refl _ _).grown hgr hB (fun k hk=>by
  rcases h.2 with ⟨hv,_⟩ | ⟨g,cap,cur,hv,hbg,_⟩
  ·rw[hv] at hk;simp[Value.ownBlock] at hk
  ·rw[hv] at hk;simp[Value.ownBlock] at hk;omega)
 rcases hown.2 with ⟨hv,h0⟩ | ⟨g,cap,cur,hv,_⟩
 ·omega
 ·subst hv
  rw[ownBlock_obk] at hgr hat
  rw[ownBlock_obk] at hat
  exact⟨_,_,w',hrun,hown,hbel,hgr,hat.imp id fun e=>⟨_,e,Nat.le_refl _⟩⟩
section
variable {T E s b:Nat} {z:Value}
theorem step_appX (L:Elt T E s b z) {ops:Array Oper} {o:Oper} {a:Act} {K:Act→World→Prop} {Q:Exit→Act→World→Prop} {w:World} {F:Prop} (hgd:o.guard=none) (x y:Operand)
  (ho:o.op=.call { callee:=.builtin .append,args:=#[x,y],argTypes:=#[T,T] }) (hty:o.type=T)
  (B:Nat) (A:Option Addr) (n c:Nat) (l0:List Value) (hx:a.eval x=.slice A n c) (h:OwnV E s w B A n c l0) (ad:Addr) (m d:Nat) (l:List Value) (Bs:Nat) (hy:a.eval y=.slice (some ad) m d) (hr:RdV w Bs (some ad) l)
  (hl:l.length=m*s) (hm0:0 < m) (h1:∀ u∈l,u.oneCell'=true) (hb:(n+m)*b≤140737488355328) (hm:n+m≤maxLen) (hB:B≤w.heap.size)
  (N:Nat) (hN:n+m=N) (M:List Value) (hM:l0++l=M)
  (hK:∀ A' c' w',OwnV E s w' B A' N c' M→Below B w w'→Grew A A' w w'→K (a.put o.dst (.slice A' N c')) w'):if Region.wanted o (yielded ops a.tmps)=true then Oper.wp Tryz.prog o a w K Q else F:=by
 have hw:Region.wanted o (yielded ops a.tmps)=true:=by simp[Region.wanted,hgd]
 rw[if_pos hw]
 subst hN;subst hM
 obtain⟨A',c',w',hrun,h1,h2,h3⟩:=run_appX L w B A n c l0 h ad m d l Bs hr hl hm0 h1 hb hm hB
 unfold Oper.wp execOp
 simp only[ho,hty,resolve,invoke,builtin,Sem.run_bind,Sem.run_pure,Result.andThen_ok,List.map_toArray,List.map_cons,List.map_nil,hx,hy,hrun]
 exact hK A' c' w' h1 h2 h3
theorem wpList_appX (L:Elt T E s b z) {ops:Array Oper} {rest:List Oper} {o:Oper} {a:Act} {Q:Exit→Act→World→Prop} {w:World} (hgd:o.guard=none) (x y:Operand)
  (ho:o.op=.call { callee:=.builtin .append,args:=#[x,y],argTypes:=#[T,T] }) (hty:o.type=T)
  (B:Nat) (A:Option Addr) (n c:Nat) (l0:List Value) (hx:a.eval x=.slice A n c) (h:OwnV E s w B A n c l0) (ad:Addr) (m d:Nat) (l:List Value) (Bs:Nat) (hy:a.eval y=.slice (some ad) m d) (hr:RdV w Bs (some ad) l)
  (hl:l.length=m*s) (hm0:0 < m) (h1:∀ u∈l,u.oneCell'=true) (hb:(n+m)*b≤140737488355328) (hm:n+m≤maxLen) (hB:B≤w.heap.size)
  (N:Nat) (hN:n+m=N) (M:List Value) (hM:l0++l=M)
  (hK:∀ A' c' w',OwnV E s w' B A' N c' M→Below B w w'→Grew A A' w w'→wpList Tryz.prog ops Q rest (a.put o.dst (.slice A' N c')) w'):wpList Tryz.prog ops Q (o::rest) a w:=by
 subst hN;subst hM
 refine wpList_plain hgd fun K hk=>?_
 obtain⟨A',c',w',hrun,h1,h2,h3⟩:=run_appX L w B A n c l0 h ad m d l Bs hr hl hm0 h1 hb hm hB
 unfold Oper.wp execOp
 simp only[ho,hty,resolve,invoke,builtin,Sem.run_bind,Sem.run_pure,Result.andThen_ok,List.map_toArray,List.map_cons,List.map_nil,hx,hy,hrun]
 exact hk _ _ (hK A' c' w' h1 h2 h3)
end
theorem pos_fit {l:List Nd} {a:Nat} (h:size l (a:Int)≠0):∃ x,l[a]? = some x∧fine x=true∧∀ j,j≤kn x→pos l (a+1) j≤l.length:=by
 obtain⟨x,k,t,hok,_,h2,h3,h4⟩:=size_tree h
 rw[Int.toNat_natCast] at h3
 have hd:l.drop (a+1)=k.flat++t:=by
  rw[← List.drop_drop,h3]
  rfl
 refine⟨x,?_,hok.1,fun j hj=>(pos_dr hok.2.2.1 hd (by omega) j (by rw[hok.2.1];exact hj)).2.2.2⟩
 have:(l.drop a)[0]? = some x:=by rw[h3];rfl
 simpa using this
theorem kids_none (l:List Nd) (a:Int) (h:size l a=0):kids l a=[]:=by unfold kids;rw[if_pos h]
def MadeJ (l:List Int) (w:World) (e:Ending) (w':World):Prop:=∃ A n c,e=.returned (.slice A n c)∧RdI w' w'.heap.size A n l∧n≤c∧Below w.heap.size w w'∧∀ ad,A=some ad→w.heap.size≤ad.block
theorem OwnV.newer {E s:Nat} {w:World} {B n c:Nat} {A:Option Addr} {l:List Value} (h:OwnV E s w B A n c l):∀ ad,A=some ad→B≤ad.block:=fun ad e=>by
 rcases h.2 with ⟨hv,_⟩ | ⟨g,cap,cur,hv,hbg,_⟩
 ·injection hv with h1;rw[e] at h1;cases h1
 ·injection hv with h1;rw[e] at h1;injection h1 with h1;rw[h1];exact hbg
theorem MadeJ.mk {l:List Int} {w w':World} {A:Option Addr} {n c:Nat} (h:OwnV 3 1 w' w.heap.size A n c (is l)) (hb:Below w.heap.size w w'):MadeJ l w (.returned (.slice A n c)) w' :=
 ⟨A,n,c,rfl,⟨by have:=h.len;rw[is_length] at this;omega,h.rd⟩,h.cap,hb,h.newer⟩
theorem madeJ_nil (w w':World) (hb:Below w.heap.size w w'):MadeJ [] w (.returned (.slice none 0 0)) w':=⟨none,0,0,rfl,⟨rfl,RdV.nil⟩,Nat.le_refl _,hb,fun _ h=>by cases h⟩
theorem kids_tree {l:List Nd} {a:Nat} (h:size l (a:Int)≠0):∃ m,kids l (a:Int)=plc l (a+1) m∧m≤128∧∀ j,j≤m→pos l (a+1) j≤a+size l (a:Int)∧(j < m→pos l (a+1) j < a+size l (a:Int))∧(j=m→pos l (a+1) j=a+size l (a:Int)):=by
 obtain⟨x,k,t,hok,_,h2,h3,h4⟩:=size_tree h
 rw[Int.toNat_natCast] at h3
 have hd:l.drop (a+1)=k.flat++t:=by
  rw[← List.drop_drop,h3]
  rfl
 refine⟨kn x,?_,kn_le hok.1,fun j hj=>?_⟩
 ·unfold kids
  have:(l.drop a)[0]? = some x:=by rw[h3];rfl
  have hx:l[a]? = some x:=by simpa using this
  rw[if_neg h,Int.toNat_natCast,hx]
  rfl
 ·obtain⟨_,h5,_,_⟩:=pos_dr hok.2.2.1 hd (by omega) j (by rw[hok.2.1];exact hj)
  have h6:=dr_cnt k j
  have h7:=F.cnt_le_sz (F.dr j k)
  rw[hok.2.1] at h6
  refine⟨by omega,fun hlt=>by omega,fun he=>?_⟩
  have h8:F.dr j k=.nil:=F.cnt_zero (by omega)
  rw[h8] at h5
  simp only[F.sz] at h5
  omega
set_option maxRecDepth 100000 in
set_option maxHeartbeats 1600000 in
theorem rkids_in (A:Option Addr) (n cap:Nat) (l:List Nd) (a:Nat) (w:World) (h:RdN w w.heap.size A n l) (hc:n≤cap) (hn:n≤1099511627776) (ha:a < n) (hs:size l (a:Int)≠0) :
  Calls Tryz.prog 119 #[.slice A n cap,.int .i64 a] w (MadeJ (kids l a) w):=by
 obtain⟨m,hkd,hm,hpos⟩:=kids_tree hs
 rw[hkd]
 have hfit:a+size l (a:Int)≤n:=by
  obtain⟨_,h1,_⟩:=hpos m (Nat.le_refl _)
  obtain⟨x,hx,_,h2⟩:=pos_fit hs
  obtain⟨x',k,t,hok,_,h3,h4,h5⟩:=size_tree hs
  rw[Int.toNat_natCast] at h4
  have:=congrArg List.length h4
  rw[List.length_drop,List.length_cons,List.length_append,F.flat_length] at this
  have:=h.len
  omega
 clear hkd
 generalize hSd:size l (a:Int)=S at hs hfit hpos
 have HSD:=hid hSd
 have HP:=hid hpos
 clear hSd hpos hs
 have hca:¬ cap=a:=by omega
 go_enter Tryz.func119,Tryz.ntmps119
 go_wp2_with fail
 refine(rsize_any A n cap l a w h hc hn).mono ?_
 rw[HSD.out]
 rintro e w1 ⟨rfl,hb1⟩
 go_wp2_with fail
 go_loopw [6,7] (fun o s wr=>∃(i c:Nat) (Ao:Option Addr),i≤m∧s=.int .i64 (pos l (a+1) i:Nat)∧o=.slice Ao i c∧OwnV 3 1 wr w.heap.size Ao i c (is (plc l (a+1) i))∧Below w.heap.size w wr) (fun o _ _=>m - lenOf o)
 case atStart=>exact⟨0,0,none,by omega,ret_num (by simp[pos]),rfl,OwnV.nil _ _ _ _,hb1⟩
 case round =>
  obtain⟨i,c,Ao,hi,rfl,rfl,hw,hb⟩:=hrel
  by_cases hlt:i < m
  ·obtain⟨_,hp1,_⟩:=HP.out i hi
   have hp1:=hp1 hlt
   have hp2:pos l (a+1) i+size l (pos l (a+1) i:Nat)≤a+S:=(HP.out (i+1) (by omega)).1
   have HPS:Hid (pos l (a+1) (i+1)=pos l (a+1) i+size l (pos l (a+1) i:Nat)):=hid rfl
   have HPL:=hid (plc_succ l (a+1) i)
   generalize hPd:pos l (a+1) i=P at hp1 hp2 HPS HPL ⊢
   have HPD:=hid hPd
   clear hPd
   have hlt2:decide ((P:Int) < (a:Int)+(S:Int))=true:=by simp;omega
   have hbs:=hb.alloc hb.size (.cells #[.int .i64 (P:Int)] 3)
   have hw':=OwnV.below hw rfl (bl1 wr (.cells #[.int .i64 (P:Int)] 3))
   have hrd:=rdV_new wr #[.int .i64 (P:Int)] 3 (is [(P:Int)]) rfl
   go_wp2_with (at_builtin;go_loud (refine wpList_appV elI rfl (.tmp 23) (.tmp 25) rfl rfl w.heap.size Ao i c _ rfl hw' _ 1 1 _ _ rfl hrd rfl (is_one _) (by omega) (by unfold maxLen;omega) hbs.size (i+1) rfl (is (plc l (a+1) (i+1))) (by rw[HPL.out,is_append]) ?_;intro A2 c2 w2 hw2 hb2 _))
   have k2:=hbs.trans hb2
   refine(rsize_any A n cap l (P:Int) _ (h.on k2) hc hn).mono ?_
   generalize size l (P:Int)=Z at HPS hp2 ⊢
   rintro e w4 ⟨rfl,hb4⟩
   go_wp2_with fail
   go_roundw
   case rel=>exact⟨i+1,c2,A2,by omega,ret_num (by rw[HPS.out];omega),rfl,hw2.below rfl hb4,k2.trans (hb4.mono k2.size)⟩
   case measure=>simp[lenOf];omega
  ·have hge:m≤i:=by omega
   have e:i=m:=by omega
   obtain⟨_,_,hp1⟩:=HP.out i hi
   have hp1:=hp1 e
   generalize pos l (a+1) i=P at hp1 ⊢
   have hlt2:decide ((P:Int) < (a:Int)+(S:Int))=false:=by simp;omega
   have HPD:=hid hp1
   have HE:=hid e
   clear hp1 e
   go_wp2_with fail
   go_ret
   have e:=HE.out
   subst e
   exact MadeJ.mk hw hb
set_option maxHeartbeats 400000 in
theorem rkids_out (A:Option Addr) (n cap:Nat) (l:List Nd) (a:Int) (w:World) (h:RdN w w.heap.size A n l) (hc:n≤cap) (hn:n≤1099511627776) (hs:size l a=0) (ha:-9223372036854775808≤a) (ha2:a < 9223372036854775807) :
  Calls Tryz.prog 119 #[.slice A n cap,.int .i64 a] w (MadeJ [] w):=by
 have HS:=hid hs
 clear hs
 have hlt:decide (a+1 < a)=false:=decide_eq_false (by omega)
 go_enter Tryz.func119,Tryz.ntmps119
 go_wp2_with fail
 refine(rsize_any A n cap l a w h hc hn).mono ?_
 rw[HS.out]
 rintro e w1 ⟨rfl,hb1⟩
 go_wp2_with fail
 go_loopw [6,7] (fun o s wr=>o=.slice none 0 0∧s=.int .i64 (a+1)∧Below w.heap.size w wr) (fun _ _ _=>0)
 case atStart=>exact⟨rfl,rfl,hb1⟩
 case round =>
  obtain⟨rfl,rfl,hb⟩:=hrel
  go_wp2_with fail
  go_ret
  exact madeJ_nil _ _ hb
theorem rkids_new (A:Option Addr) (n cap:Nat) (l:List Nd) (a:Int) (w:World) (h:RdN w w.heap.size A n l) (hc:n≤cap) (hn:n≤1099511627776) (ha:-9223372036854775808≤a) (ha2:a < 9223372036854775807) :
  Calls Tryz.prog 119 #[.slice A n cap,.int .i64 a] w (MadeJ (kids l a) w):=by
 by_cases hs:size l a=0
 ·rw[kids_none l a hs]
  exact rkids_out A n cap l a w h hc hn hs ha ha2
 ·obtain⟨x,k,t,_,h1,h2,_⟩:=size_tree hs
  obtain⟨a',rfl⟩:=Int.eq_ofNat_of_zero_le h1
  exact rkids_in A n cap l a' w h hc hn (by have:=h.len;omega) hs
theorem rkids_any (A:Option Addr) (n cap:Nat) (l:List Nd) (a:Int) (w:World) (h:RdN w w.heap.size A n l) (hc:n≤cap) (hn:n≤1099511627776) (ha:-9223372036854775808≤a) (ha2:a < 9223372036854775807) :
  Calls Tryz.prog 119 #[.slice A n cap,.int .i64 a] w (MadeI (kids l a) w):=by
 refine(rkids_new A n cap l a w h hc hn ha ha2).mono ?_
 rintro e w' ⟨A,n,c,h1,h2,h3,h4,_⟩
 exact⟨A,n,c,h1,h2,h3,h4⟩
end Go.Proofs.YtfddpnhaejkacaaGreat
