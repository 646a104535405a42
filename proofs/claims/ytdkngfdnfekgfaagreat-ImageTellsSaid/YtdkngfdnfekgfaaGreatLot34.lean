import Derived.Test.YtdkngfdnfekgfaaGreatLot23
set_option maxHeartbeats 1600000
set_option maxRecDepth 100000
set_option linter.unusedSimpArgs false
set_option linter.unusedVariables false
namespace Go.Proofs.YtdkngfdnfekgfaaGreat
open Go.RowKit Tab
theorem wordsL_push(out:List Rn)(x:Rn):wordsL (tpush out x)=wordsL out++List.replicate x.n x.p:=by
 rcases tpush_cases out x with ⟨h,e⟩ | ⟨h,rfl,e⟩ | ⟨o,y,h,rfl,hp,e⟩ | ⟨o,y,h,rfl,hp,e⟩
 ·rw[e,h];simp
 ·rw[e];simp[wordsL]
 ·rw[e,wordsL_append,wordsL_append];simp only[wordsL,hp,List.append_nil,List.append_assoc];rw[List.replicate_append_replicate]
 rw[e,wordsL_append];simp[wordsL]
theorem wordsL_tidyOn(l:List Rn):∀ out,wordsL (tidyOn out l)=wordsL out++wordsL l:=by
 induction l with
 | nil=>intro out;simp[tidyOn,wordsL]
 | cons x l ih =>
  intro out;have:=ih (tpush out x);unfold tidyOn at this ⊢;rw[List.foldl_cons,this,wordsL_push];simp only[wordsL,List.append_assoc]
theorem wordsL_tidy(l:List Rn):wordsL (tidy l)=wordsL l:=by
 unfold tidy;rw[wordsL_tidyOn];rfl
def fi(q:Int):List Int→Nat
 | []=>0
 | x::l=>if x=q then 0 else fi q l+1
theorem fi_get{q:Int}{Z:List Int}(h:hasL q Z=true):Z[fi q Z]? = some q:=by
 induction Z with
 | nil=>cases h
 | cons x Z ih =>
  simp only[hasL,Bool.or_eq_true,decide_eq_true_eq] at h;by_cases hx:x=q
  ·simp[fi,hx]
  simp only[fi,if_neg hx,List.getElem?_cons_succ];exact ih (h.resolve_left hx)
theorem fi_no{q:Int}{Z:List Int}:∀ {i:Nat},i < fi q Z→¬ Z[i]? = some q:=by
 induction Z with
 | nil=>intro i h;simp[fi] at h
 | cons x Z ih =>
  intro i h;by_cases hx:x=q
  ·simp[fi,hx] at h
  simp only[fi,if_neg hx] at h;cases i with
  | zero=>simpa using hx
  | succ i=>simpa using ih (by omega)
theorem fi_lt{q:Int}{Z:List Int}(h:hasL q Z=true):fi q Z < Z.length:=(List.getElem?_eq_some_iff.1 (fi_get h)).1
theorem fi_rep_ne{x q:Int}(h:x≠q)(k:Nat)(Z:List Int):fi q (List.replicate k x++Z)=k+fi q Z:=by
 induction k with
 | zero=>simp
 | succ k ih =>
  simp only[List.replicate_succ,List.cons_append,fi,if_neg h,ih];omega
theorem fi_rep_eq(q:Int)(k:Nat)(Z:List Int)(h:1≤k):fi q (List.replicate k q++Z)=0:=by
 obtain⟨k,rfl⟩:∃ j,k=j+1:=⟨k - 1,by omega⟩;simp[List.replicate_succ,fi]
def wc(q:Int):List Rn→Nat→Nat
 | [],n=>n
 | r::s,n=>if r.p=q then 0 else wc q s n+r.n
theorem wc_fi{q:Int}{S:List Rn}(h:∀ r∈S,1≤r.n)(Y:List Int):wc q S (fi q Y)=fi q (wordsL S++Y):=by
 induction S with
 | nil=>rfl
 | cons r s ih =>
  have ih:=ih fun x hx=>h x (by simp[hx]);have h1:=h r (by simp);simp only[wc,wordsL,List.append_assoc];by_cases hp:r.p=q
  ·rw[if_pos hp,hp,fi_rep_eq q _ _ h1]
  rw[if_neg hp,fi_rep_ne hp,ih];omega
theorem wc_le(q:Int)(S:List Rn)(n:Nat):wc q S n≤ticks S+n:=by
 induction S with
 | nil=>simp[wc,ticks]
 | cons r s ih =>
  simp only[wc,ticks];split <;> omega
theorem wc_at{q:Int}{L:List Rn}{i:Nat}{r:Rn}(h:L[i]? = some r)(n:Nat):wc q (L.drop i) n=if r.p=q then 0 else wc q (L.drop (i+1)) n+r.n:=by
 obtain⟨hi,e⟩:=List.getElem?_eq_some_iff.1 h;rw[List.drop_eq_getElem_cons hi,e];rfl
def wt(q:Int)(L:List Rn)(i:Nat):Nat:=wc q (L.drop (i+1)) (wc q L 0)
theorem ticks_drop_le(L:List Rn)(i:Nat):ticks (L.drop i)≤ticks L:=by
 have h:ticks (L.take i++L.drop i)=ticks L:=by rw[List.take_append_drop]
 rw[ticks_append] at h;omega
theorem wc0_le(q:Int)(L:List Rn):wc q L 0≤ticks L:=by
 have:=wc_le q L 0;omega
theorem wt_le(q:Int)(L:List Rn)(i:Nat):wt q L i≤2*ticks L:=by
 have h1:=wc_le q (L.drop (i+1)) (wc q L 0);have h2:=wc0_le q L;have h3:=ticks_drop_le L (i+1);unfold wt;omega
theorem wt_fi{q:Int}{L:List Rn}(h:∀ r∈L,1≤r.n)(i:Nat):wt q L i=fi q (wordsL (L.drop (i+1))++wordsL L):=by
 unfold wt;have e:wc q L 0=fi q (wordsL L):=by
  have:=wc_fi (q:=q) h [];rw[List.append_nil] at this;exact this
 rw[e,wc_fi fun r hr=>h r (List.mem_of_mem_drop hr)]
theorem rnd_split{X Y W:List Int}{x:Int}(hW:W=X++x::Y){m:Nat}(hm:m < (Y++W).length):rnd W (X.length+(1+m))=(Y++W)[m]?:=by
 have hl:W.length=X.length+1+Y.length:=by rw[hW,List.length_append,List.length_cons];omega
 rw[List.length_append] at hm;by_cases h:m < Y.length
 ·rw[rnd_lt (by omega),List.getElem?_append_left h,hW,List.getElem?_append_right (by omega)];rw[show X.length+(1+m) - X.length=m+1 by omega,List.getElem?_cons_succ]
 rw[List.getElem?_append_right (by omega)];have e:X.length+(1+m)=(m - Y.length)+W.length*1:=by omega
 rw[e,rnd_add,rnd_lt (by omega)]
theorem dist_split{X Y W:List Int}{x q:Int}(hW:W=X++x::Y)(h:hasL q W=true):dist W q X.length=1+fi q (Y++W):=by
 have hZ:hasL q (Y++W)=true:=by rw[hasL_append,h,Bool.or_true]
 have hlt:=fi_lt hZ;refine(dist_dst h X.length).eq ⟨by omega,?_,fun e h1 h2=>?_⟩
 ·rw[rnd_split hW hlt];exact fi_get hZ
 obtain⟨m,rfl⟩:∃ m,e=1+m:=⟨e - 1,by omega⟩;rw[rnd_split hW (by omega)];exact fi_no (by omega)
theorem run_at{L:List Rn}{i:Nat}{r:Rn}(hr:L[i]? = some r):wordsL L=wordsL (L.take i)++(List.replicate r.n r.p++wordsL (L.drop (i+1))):=by
 have h:=congrArg wordsL (List.take_append_drop (i+1) L);rw[wordsL_append,wordsL_more hr,List.append_assoc] at h;exact h.symm
theorem dist_run{L:List Rn}{i j:Nat}{r:Rn}{q:Int}(hr:L[i]? = some r)(h:hasL q (wordsL L)=true)(hj:j < r.n):
  dist (wordsL L) q ((wordsL (L.take i)).length+j)=1+fi q (List.replicate (r.n - 1 - j) r.p++(wordsL (L.drop (i+1))++wordsL L)):=by
 have e:wordsL L=(wordsL (L.take i)++List.replicate j r.p)++r.p::(List.replicate (r.n - 1 - j) r.p++wordsL (L.drop (i+1))):=by
  refine(run_at hr).trans ?_;have e2:List.replicate r.n r.p=List.replicate j r.p++r.p::List.replicate (r.n - 1 - j) r.p:=by
   rw[← List.replicate_succ,List.replicate_append_replicate];congr 1;omega
  rw[e2];simp only[List.append_assoc,List.cons_append]
 have k:=dist_split e h;rw[List.length_append,List.length_replicate,List.append_assoc] at k;exact k
theorem get_run:∀(L:List Rn) (t:Nat),t < (wordsL L).length→∃ i r j,L[i]? = some r∧j < r.n∧t=(wordsL (L.take i)).length+j∧(wordsL L)[t]? = some r.p:=by
 intro L;induction L with
 | nil=>intro t h;simp[wordsL] at h
 | cons x L ih =>
  intro t h;by_cases hx:t < x.n
  ·refine⟨0,x,t,rfl,hx,by simp[wordsL],?_⟩;simp only[wordsL];rw[List.getElem?_append_left (by simpa using hx),List.getElem?_replicate,if_pos hx]
  simp only[wordsL,List.length_append,List.length_replicate] at h;obtain⟨i,r,j,h1,h2,h3,h4⟩:=ih (t - x.n) (by omega);refine⟨i+1,r,j,h1,h2,?_,?_⟩
  ·simp only[List.take_succ_cons,wordsL,List.length_append,List.length_replicate];omega
  simp only[wordsL];rw[List.getElem?_append_right (by simp;omega),List.length_replicate];exact h4
theorem run_get{L:List Rn}{i j:Nat}{r:Rn}(hr:L[i]? = some r)(hj:j < r.n):(wordsL L)[(wordsL (L.take i)).length+j]? = some r.p∧(wordsL (L.take i)).length+j < (wordsL L).length:=by
 have e:=run_at hr;have h1:(wordsL L)[(wordsL (L.take i)).length+j]? = some r.p:=by
  rw[e,List.getElem?_append_right (by omega),Nat.add_sub_cancel_left,List.getElem?_append_left (by simpa using hj),List.getElem?_replicate,if_pos hj]
 exact⟨h1,(List.getElem?_eq_some_iff.1 h1).1⟩
def mo(p:Int)(g:Nat→Nat→Nat)(L:List Rn):Nat→Nat
 | 0=>0
 | k+1=>match L[k]? with
  | some r=>if r.p=p then max (mo p g L k) (g k r.n) else mo p g L k
  | none=>mo p g L k
theorem mo_yes{p:Int}{g:Nat→Nat→Nat}{L:List Rn}{k:Nat}{r:Rn}(h:L[k]? = some r)(hp:r.p=p):mo p g L (k+1)=max (mo p g L k) (g k r.n):=by simp only[mo,h,if_pos hp]
theorem mo_no{p:Int}{g:Nat→Nat→Nat}{L:List Rn}{k:Nat}{r:Rn}(h:L[k]? = some r)(hp:r.p≠p):mo p g L (k+1)=mo p g L k:=by simp only[mo,h,if_neg hp]
theorem mo_le{p:Int}{g:Nat→Nat→Nat}{L:List Rn}{M:Nat}:∀ k,mo p g L k≤M↔∀ i r,i < k→L[i]? = some r→r.p=p→g i r.n≤M:=by
 intro k;induction k with
 | zero=>exact⟨fun _ i r h=>by omega,fun _=>Nat.zero_le _⟩
 | succ k ih =>
  have low:(∀ i r,i < k+1→L[i]? = some r→r.p=p→g i r.n≤M)↔mo p g L k≤M∧∀ r,L[k]? = some r→r.p=p→g k r.n≤M:=by
   constructor
   ·exact fun h=>⟨ih.2 fun i r hi=>h i r (by omega),fun r=>h k r (by omega)⟩
   rintro ⟨h1,h2⟩ i r hi hr hp;by_cases e:i=k
   ·subst e;exact h2 r hr hp
   exact ih.1 h1 i r (by omega) hr hp
  rw[low];cases hk:L[k]? with
  | none=>simp[mo,hk]
  | some x =>
   by_cases hp:x.p=p
   ·rw[mo_yes hk hp];constructor
    ·intro h;exact⟨by omega,fun r hr _=>by injection hr with hr;subst hr;omega⟩
    rintro ⟨h1,h2⟩;have:=h2 x rfl hp;omega
   rw[mo_no hk hp];exact⟨fun h=>⟨h,fun r hr hrp=>by injection hr with hr;subst hr;exact absurd hrp hp⟩,fun h=>h.1⟩
theorem lateW_run{L:List Rn}{p q:Int}{M:Nat}:lateW (wordsL L) p q (wordsL L).length≤M↔∀ i r j,L[i]? = some r→r.p=p→j < r.n→dist (wordsL L) q ((wordsL (L.take i)).length+j)≤M:=by
 rw[lateW_le];constructor
 ·intro h i r j hr hp hj;obtain⟨h1,h2⟩:=run_get hr hj;exact h _ h2 (by rw[h1,hp])
 intro h t ht hp;obtain⟨i,r,j,hr,hj,rfl,e⟩:=get_run L t ht;rw[e] at hp;injection hp with hp;exact h i r j hr hp hj
theorem late_mo{L:List Rn}{p q:Int}(h:∀ r∈L,1≤r.n)(hq:hasL q (wordsL L)=true)(hne:p≠q):lateW (wordsL L) p q (wordsL L).length=mo p (fun i n=>wt q L i+n) L L.length:=by
 refine nat_eq_of_le fun M=>?_;rw[lateW_run,mo_le];constructor
 ·intro H i r _ hr hp;have h1:=h r (List.mem_of_getElem? hr);have k:=H i r 0 hr hp (by omega);rw[dist_run hr hq (by omega),fi_rep_ne (by rw[hp];exact hne),← wt_fi h] at k;omega
 intro H i r j hr hp hj;have k:=H i r (List.getElem?_eq_some_iff.1 hr).1 hr hp;rw[dist_run hr hq hj,fi_rep_ne (by rw[hp];exact hne),← wt_fi h];omega
theorem gap_mo{L:List Rn}{p:Int}(h:∀ r∈L,1≤r.n)(hp:hasL p (wordsL L)=true):lateW (wordsL L) p p (wordsL L).length=mo p (fun i _=>wt p L i) L L.length+1:=by
 have h1:1≤lateW (wordsL L) p p (wordsL L).length:=by
  obtain⟨t,ht,e⟩:=hasL_get hp;have k:=(lateW_le (W:=wordsL L) (p:=p) (q:=p) (wordsL L).length).1 (Nat.le_refl _) t ht e;have:=(dist_dst hp t).1;omega
 have key:lateW (wordsL L) p p (wordsL L).length - 1=mo p (fun i _=>wt p L i) L L.length:=by
  refine nat_eq_of_le fun M=>?_;rw[show (lateW (wordsL L) p p (wordsL L).length - 1≤M)↔lateW (wordsL L) p p (wordsL L).length≤M+1 by omega,lateW_run,mo_le];constructor
  ·intro H i r _ hr hrp;have h1:=h r (List.mem_of_getElem? hr);have k:=H i r (r.n - 1) hr hrp (by omega);rw[dist_run hr hp (by omega),show r.n - 1 - (r.n - 1)=0 by omega,List.replicate_zero,List.nil_append,← wt_fi h] at k;omega
  intro H i r j hr hrp hj;have k:=H i r (List.getElem?_eq_some_iff.1 hr).1 hr hrp;rw[dist_run hr hp hj];by_cases hl:r.n - 1 - j=0
  ·rw[hl,List.replicate_zero,List.nil_append,← wt_fi h];omega
  rw[hrp,fi_rep_eq p _ _ (by omega)];omega
 omega
theorem has_tk{L:List Rn}{p:Int}:hasL p (wordsL L)=true↔0 < tkOf p L:=by rw[← cnt_has,cnt_words]
theorem has_tk0{L:List Rn}{p:Int}:hasL p (wordsL L)=false↔tkOf p L=0:=by
 have h:=has_tk (L:=L) (p:=p);cases hh:hasL p (wordsL L) with
 | true =>
  rw[hh] at h;have:=h.1 rfl;exact⟨fun e=>(by cases e),fun e=>by omega⟩
 | false =>
  have h2:¬ 0 < tkOf p L:=fun k=>by
   have:=h.2 k;rw[hh] at this;cases this
  exact⟨fun _=>by omega,fun _=>rfl⟩
structure BstB where
 a:Nat
 l:Nat
 m:Nat
def stp(p:Int)(P:Nat)(s:BstB)(x:Int):BstB:=if s.l=1 then ⟨min s.a (s.m+if x=p then 1 else 0),P,0⟩ else ⟨s.a,s.l - 1,s.m+if x=p then 1 else 0⟩
theorem stp_one{p x:Int}{P a m:Nat}:stp p P ⟨a,1,m⟩ x=⟨min a (m+if x=p then 1 else 0),P,0⟩:=rfl
theorem stp_many{p x:Int}{P a l m:Nat}(h:¬ l=1):stp p P ⟨a,l,m⟩ x=⟨a,l - 1,m+if x=p then 1 else 0⟩:=if_neg h
def stpL(p:Int)(P:Nat)(s:BstB)(X:List Int):BstB:=X.foldl (stp p P) s
theorem stpL_append(p:Int)(P:Nat)(s:BstB)(X Y:List Int):stpL p P s (X++Y)=stpL p P (stpL p P s X) Y:=List.foldl_append
theorem stpL_lt{p:Int}{P:Nat}:∀(X:List Int) (a l m:Nat),X.length < l→stpL p P ⟨a,l,m⟩ X=⟨a,l - X.length,m+cntF p X⟩:=by
 intro X;induction X with
 | nil=>intro a l m _;rfl
 | cons x X ih =>
  intro a l m h;rw[List.length_cons] at h;have e:stpL p P ⟨a,l,m⟩ (x::X)=stpL p P (stp p P ⟨a,l,m⟩ x) X:=rfl;rw[e,stp_many (by omega),ih _ _ _ (by omega)];simp only[List.length_cons,cntF];congr 1 <;> omega
theorem stpL_eq{p:Int}{P:Nat}:∀(X:List Int) (a l m:Nat),X.length=l→1≤l→stpL p P ⟨a,l,m⟩ X=⟨min a (m+cntF p X),P,0⟩:=by
 intro X;induction X with
 | nil=>intro a l m h h1;simp at h;omega
 | cons x X ih =>
  intro a l m h h1;rw[List.length_cons] at h;have e:stpL p P ⟨a,l,m⟩ (x::X)=stpL p P (stp p P ⟨a,l,m⟩ x) X:=rfl;rw[e];by_cases hl:l=1
  ·have hX:X=[]:=List.length_eq_zero_iff.1 (by omega);subst hX;subst hl;rw[stp_one];rfl
  rw[stp_many hl,ih _ _ _ (by omega) (by omega)];simp only[cntF];congr 2;omega
theorem stp_part{p x:Int}{P a l m n:Nat}(h:n < l):stpL p P ⟨a,l,m⟩ (List.replicate n x)=⟨a,l - n,m+if x=p then n else 0⟩:=by
 rw[stpL_lt _ _ _ _ (by simpa using h),List.length_replicate,cnt_rep]
theorem stp_full{p x:Int}{P a l m n:Nat}(h:l≤n)(h1:1≤l):stpL p P ⟨a,l,m⟩ (List.replicate n x)=stpL p P ⟨min a (m+if x=p then l else 0),P,0⟩ (List.replicate (n - l) x):=by
 obtain⟨k,rfl⟩:∃ k,n=l+k:=⟨n - l,by omega⟩;rw[← List.replicate_append_replicate,stpL_append,stpL_eq _ _ _ _ (by simp) h1,cnt_rep,Nat.add_sub_cancel_left]
theorem stp_jump{p x:Int}{P:Nat}(hP:1≤P)(r:Nat):∀(k a:Nat),stpL p P ⟨a,P,0⟩ (List.replicate (P*(k+1)+r) x)=stpL p P ⟨a,P,0⟩ (List.replicate (P+r) x):=by
 intro k;induction k with
 | zero=>intro a;rw[Nat.zero_add,Nat.mul_one]
 | succ k ih =>
  intro a;rw[stp_full (by rw[Nat.mul_add];omega) hP,show P*(k+1+1)+r - P=P*(k+1)+r by rw[Nat.mul_add P (k+1) 1];omega,ih,
   stp_full (n:=P+r) (a:=a) (by omega) hP,stp_full (n:=P+r) (by omega) hP]
  congr 2;simp only[Nat.zero_add];omega
theorem stp_mod{p x:Int}{P a n:Nat}(hP:1≤P)(h:1 < n / P):stpL p P ⟨a,P,0⟩ (List.replicate n x)=stpL p P ⟨a,P,0⟩ (List.replicate (P+n % P) x):=by
 obtain⟨k,hk⟩:∃ k,n / P=k+1:=⟨n / P - 1,by omega⟩;have e:=Nat.div_add_mod n P;rw[hk] at e;rw[← stp_jump hP (n % P) k a,e]
theorem stp_bud{p:Int}{P:Nat}{W:List Int}(hP:1≤P):∀ k,P*k≤W.length→stpL p P ⟨P,P,0⟩ (W.take (P*k))=⟨min P (budW W p P k),P,0⟩:=by
 intro k;induction k with
 | zero =>
  intro _;rw[Nat.mul_zero,List.take_zero];show (⟨P,P,0⟩:BstB)=_;congr 1;simp only[budW];omega
 | succ k ih =>
  intro h;rw[Nat.mul_add,Nat.mul_one] at h ⊢;rw[List.take_add,stpL_append,ih (by omega),stpL_eq _ _ _ _ (by rw[List.length_take,List.length_drop];omega) hP];simp only[budW,Nat.zero_add,Nat.mul_comm k P];congr 1;omega
theorem stp_all{p:Int}{P:Nat}{W:List Int}(hP:1≤P)(hW:1≤W.length)(hm:W.length % P=0):(stpL p P ⟨P,P,0⟩ W).a=budW W p P (W.length / P):=by
 have e:=Nat.div_add_mod W.length P;rw[hm,Nat.add_zero] at e;have h:=stp_bud (p:=p) (W:=W) hP (W.length / P) (by omega);rw[e,List.take_length] at h;rw[h];show min P (budW W p P (W.length / P))=_;have hd:W.length / P≠0:=fun h0=>by
  rw[h0,Nat.mul_zero] at e;omega
 obtain⟨k,hk⟩:∃ k,W.length / P=k+1:=Nat.exists_eq_succ_of_ne_zero hd;rw[hk];simp only[budW];have h1:=cntF_le p ((W.drop (k*P)).take P);have h2:((W.drop (k*P)).take P).length≤P:=by rw[List.length_take];omega
 omega
def BOk(P:Nat)(s:BstB):Prop:=s.a≤P∧1≤s.l∧s.l≤P∧s.m+s.l≤P
theorem bok_step{p:Int}{P:Nat}{s:BstB}(hP:1≤P)(h:BOk P s)(x:Int):BOk P (stp p P s x):=by
 obtain⟨h1,h2,h3,h4⟩:=h;unfold stp;by_cases hl:s.l=1
 ·rw[if_pos hl];exact⟨by show min _ _≤P;omega,hP,Nat.le_refl _,by show 0+P≤P;omega⟩
 rw[if_neg hl];refine⟨h1,by show 1≤s.l - 1;omega,by show s.l - 1≤P;omega,?_⟩;show s.m+_+(s.l - 1)≤P;split <;> omega
theorem bok_all{p:Int}{P:Nat}(hP:1≤P):∀(X:List Int) (s:BstB),BOk P s→BOk P (stpL p P s X):=by
 intro X;induction X with
 | nil=>intro s h;exact h
 | cons x X ih=>intro s h;exact ih _ (bok_step hP h x)
theorem bok_start{P:Nat}(hP:1≤P):BOk P ⟨P,P,0⟩:=⟨Nat.le_refl _,hP,Nat.le_refl _,by show 0+P≤P;omega⟩
theorem elJ:Elt 142 2 1 8 (.int .i64 0):=⟨Tryz.underlying142,by kernel_rfl,rfl,by omega⟩
theorem run_makeJ(m:Nat)(hm:m≤1048576)(W:World):(Instr.makeSlice 142 (.int .i64 (m:Int)) (.int .i64 (m:Int))).run Tryz.prog W=.ok (.slice (some ⟨W.heap.size,0,none⟩) m m) (W.alloc (.cells (madeCells #[.int .i64 0] m) 2)):=by
 obtain⟨i,hi,hz,hs,hby⟩:=info_parts elJ.hi;have hr:=run_make (P:=Tryz.prog) W 142 2 i _ elJ.ht hi hz .i64 .i64 m m (by omega) (by omega) (by rw[hby];omega) (by omega);rw[hs] at hr;simp only[Int.toNat_natCast,Nat.mul_one] at hr;exact hr
theorem bmore_any(s n S N:Int)(w:World)(hs:0≤s)(hn:0≤n)(h:s+n≤4611686018427387904)(hS:S=s)(hN:N=n):
  Calls Tryz.prog 139 #[.int .i64 S,.int .i64 N] w fun e w'=>e=.returned (.int .i64 (s+n))∧w'=w:=by
 subst hS;subst hN;have h1:¬ 9223372036854775807 - N < S:=by omega
 go_enter Tryz.func139,Tryz.ntmps139;go_wp2;go_ret;exact⟨rfl,rfl⟩
def ccF(q:Int)(L:List Rn):Nat→Nat
 | 0=>0
 | k+1=>wc q L (ccF q L k)
theorem ccF_le(q:Int)(L:List Rn):∀ k,ccF q L k≤k*ticks L:=by
 intro k;induction k with
 | zero=>simp[ccF]
 | succ k ih =>
  have:=wc_le q L (ccF q L k);simp only[ccF,Nat.succ_mul];omega
def MadJ(n:Nat)(f:Nat→Nat)(w:World)(e:Ending)(w':World):Prop :=
 ∃ g,e=.returned (.slice (some ⟨g,0,none⟩) n n)∧Vec w' g n (fun j=>.int .i64 (f j:Nat))∧Below w.heap.size w w'∧w.heap.size≤g
theorem waits_any(A:Option Addr)(n cap:Nat)(L:List Rn)(q:Int)(w:World)(h:RdR w w.heap.size A n L)(hc:n≤cap)(hn:n≤1048576)(ht:ticks L≤1099511627776):
  Calls Tryz.prog 141 #[.slice A n cap,.int .i64 q] w (MadJ n (wt q L) w):=by
 have hmk:=run_makeJ n hn;obtain⟨B,hB⟩:∃ B,B=w.heap.size:=⟨_,rfl⟩;have hb0:Below B w (w.alloc (.cells (madeCells #[.int .i64 0] n) 2)):=by rw[hB];exact bl1 w _
 have hV0:Vec (w.alloc (.cells (madeCells #[.int .i64 0] n) 2)) w.heap.size n fun _=>.int .i64 0:=Vec.lit w _ _ n _ fun j hj=>made_get _ n j hj;have hBg:B≤w.heap.size:=by omega
 rw[← hB] at h;have hl:=h.len;have HL:=hid hl;have HB:=hid hB;have hcc:=hid (ccF_le q L);clear hB hl;go_enter Tryz.func141,Tryz.ntmps141;go_wp2_with fail;generalize w.alloc (.cells (madeCells #[.int .i64 0] n) 2)=W0 at hb0 hV0 ⊢;generalize w.heap.size=g at hV0 hBg ⊢;clear hmk;go_loopw [6,7,11] (fun a _ s wr=>∃(k:Nat) (f:Nat→Value),k≤2∧s=.int .i64 k∧a=.int .i64 (ccF q L k:Nat)∧Vec wr g n f∧(∀ m,k=m+1→∀ i,i < n→f i=.int .i64 (wc q (L.drop (i+1)) (ccF q L m):Nat))∧Below B w wr) (fun _ _ s _=>2 - (intOf s).toNat)
 case atStart=>exact⟨0,_,by omega,rfl,rfl,hV0,fun m e=>by omega,hb0⟩
 obtain⟨k,f,hk,rfl,rfl,hV,hf,hb⟩:=hrel;have HF:=hid hf;clear hf;by_cases hlt:k < 2
 ·have hck:=hcc.out k;have hck2:ccF q L k≤2*ticks L:=by
   have:k*ticks L≤2*ticks L:=Nat.mul_le_mul_right _ (by omega);omega
  have HS:Hid (ccF q L (k+1)=wc q L (ccF q L k)):=hid rfl;have HE0:Hid (wc q (L.drop n) (ccF q L k)=ccF q L k):=hid (by rw[List.drop_eq_nil_of_le (by rw[HL.out];omega)];rfl);clear hck;generalize hC:ccF q L k=C at hck2 HS HE0 ⊢;have HC:=hid hC;clear hC;obtain⟨W1,hW1⟩:∃ W1,W1=wr:=⟨_,rfl⟩;rw[← hW1] at hV hb ⊢;clear hW1;go_wp2_with fail;generalize hx0:(n:Int) - 1=x0;have HX0:=hid hx0;clear hx0;generalize decide ((k:Int) < 2)=b12;go_loopw [6,7] (fun a s wr=>∃(j v:Nat) (x:Int) (f:Nat→Value),j≤n∧s=.int .i64 x∧x=(j:Int) - 1∧a=.int .i64 (v:Int)∧wc q (L.drop j) C=v∧Vec wr g n f∧(∀ i,j≤i→i < n→f i=.int .i64 (wc q (L.drop (i+1)) C:Nat))∧Below B w wr) (fun _ s _=>(intOf s+1).toNat)
  case atStart=>exact⟨n,C,x0,f,Nat.le_refl _,rfl,HX0.out.symm,rfl,HE0.out,hV,fun i h1 h2=>by omega,hb⟩
  clear hV hb;obtain⟨j,v,x,f2,hj,rfl,hx,rfl,hv,hV,hf,hb⟩:=hrel;have HF2:=hid hf;have HV:=hid hv;have hvle:v≤3*ticks L:=by
   have h1:=wc_le q (L.drop j) C;have h2:=ticks_drop_le L j;omega
  clear hf hv;by_cases h0:j=0
  ·have hx2:x=-1:=by omega
   clear hx;subst hx2;subst h0;have hfin:ccF q L (k+1)=v:=by rw[HS.out];exact HV.out
   have HFIN:=hid hfin
   clear hfin
   go_wp2_with fail;go_roundw
   case rel=>exact⟨k+1,f2,by omega,by go_num,by rw[HFIN.out],hV,fun m e i hi=>by
    have:m=k:=by omega
    subst this;have e3:=HF2.out i (Nat.zero_le _) hi;rw[HC.out];exact e3,hb⟩
   simp[intOf];omega
  obtain⟨j,rfl⟩:∃ i,j=i+1:=⟨j - 1,by omega⟩;have hx2:x=(j:Int):=by omega
  clear hx h0;subst hx2;have hjn:j < n:=by omega
  have hb3:=hb.setCell (p:=⟨g,j,none⟩) hBg (.int .i64 (v:Int));obtain⟨ad,r,rfl,had,hr,c0,c1⟩:=(h.below hb3).at_ hjn;have d0:=hV.cell j hjn;have d1:=hV.thaw j;have hV3:=hV.set j (.int .i64 (v:Int));have hat:=wc_at (q:=q) hr C;rw[HV.out] at hat;have hrt:r.n≤ticks L:=mem_ticks (List.mem_of_getElem? hr);have HB3:=hid hb3;have HV3:=hid hV3;have HF3:Hid (∀ i,j≤i→i < n→put1 f2 j (.int .i64 (v:Int)) i=.int .i64 (wc q (L.drop (i+1)) C:Nat)):=hid fun i h1 h2=>by
   by_cases e:i=j
   ·subst e;rw[put1_same,HV.out]
   rw[put1_other e];exact HF2.out i (by omega) h2
  clear hb3 hV3 hr hb;by_cases hp:r.p=q
  ·rw[if_pos hp] at hat;have hpb:(r.p == q)=true:=beq_iff_eq.2 hp;have HAT:=hid hat;clear hp hat;go_wp2_with fail;refine(bmore_any (v:Int) (r.n:Int) _ _ _ (by omega) (by omega) (by omega) rfl rfl).mono ?_;rintro e w1⟨rfl,rfl⟩;go_wp2_with fail;go_roundw
   case rel=>exact⟨j,0,_,_,by omega,rfl,by go_num,rfl,HAT.out,HV3.out,HF3.out,HB3.out⟩
   simp[intOf]
  rw[if_neg hp] at hat;have hpb:(r.p == q)=false:=beq_eq_false_iff_ne.2 hp;have HAT:=hid hat;clear hp hat;go_wp2_with fail;refine(bmore_any (v:Int) (r.n:Int) _ _ _ (by omega) (by omega) (by omega) rfl rfl).mono ?_;rintro e w1⟨rfl,rfl⟩;go_wp2_with fail;go_roundw
  case rel=>exact⟨j,v+r.n,_,_,by omega,rfl,by go_num,by go_num,HAT.out,HV3.out,HF3.out,HB3.out⟩
  simp[intOf]
 obtain rfl:k=2:=by omega
 have HFF:=HF.out 1 rfl;have e1:∀ i,i < n→f i=.int .i64 (wt q L i:Nat):=HFF;have HV:=hid (hV.congr e1);clear HFF e1 hV;go_wp2_with fail;go_ret;exact⟨g,rfl,HV.out,by rw[← HB.out];exact hb,by rw[← HB.out];exact hBg⟩
theorem tidy_ge(L:List Rn):∀ r∈tidy L,1≤r.n:=(tidy_apart L).pos
theorem gapL_none{L:List Rn}{p:Int}(h:tkOf p L=0):gapL (wordsL L) p=-1:=by
 unfold gapL lateL;rw[if_pos (has_tk0.2 h),if_pos (by omega)]
theorem lateL_none{L:List Rn}{p q:Int}(h:tkOf p L=0):lateL (wordsL L) p q=0:=by
 unfold lateL;rw[if_pos (has_tk0.2 h)]
theorem lateL_never{L:List Rn}{p q:Int}(h:tkOf p L≠0)(h2:tkOf q L=0):lateL (wordsL L) p q=-1:=by
 unfold lateL;rw[if_neg (by rw[has_tk0];exact h),if_pos (has_tk0.2 h2)]
theorem lateL_self{L:List Rn}{p:Int}(h:tkOf p L≠0):lateL (wordsL L) p p=(mo p (fun i _=>wt p (tidy L) i) (tidy L) (tidy L).length:Nat)+1:=by
 have hp:hasL p (wordsL (tidy L))=true:=has_tk.2 (by rw[tkOf_tidy];omega);unfold lateL;rw[if_neg (by rw[has_tk0];exact h),if_neg (by rw[has_tk0];exact h),← wordsL_tidy L,gap_mo (tidy_ge L) hp];rfl
theorem gapL_mo{L:List Rn}{p:Int}(h:tkOf p L≠0):gapL (wordsL L) p=(mo p (fun i _=>wt p (tidy L) i) (tidy L) (tidy L).length:Nat):=by
 unfold gapL;rw[lateL_self h,if_neg (by omega)];omega
theorem lateL_mo{L:List Rn}{p q:Int}(h:tkOf p L≠0)(h2:tkOf q L≠0)(hne:p≠q):lateL (wordsL L) p q=(mo p (fun i n=>wt q (tidy L) i+n) (tidy L) (tidy L).length:Nat):=by
 have hq:hasL q (wordsL (tidy L))=true:=has_tk.2 (by rw[tkOf_tidy];omega);unfold lateL;rw[if_neg (by rw[has_tk0];exact h),if_neg (by rw[has_tk0];exact h2),← wordsL_tidy L,late_mo (tidy_ge L) hq hne]
theorem bgaps_any(A:Option Addr)(n cap:Nat)(L:List Rn)(p:Int)(w:World)(h:RdR w w.heap.size A n L)(hc:n≤cap)(hn:n≤1048576)(ht:ticks L≤1099511627776):
  Calls Tryz.prog 140 #[.slice A n cap,.int .i64 p] w (Ans (.int .i64 (gapL (wordsL L) p)) w):=by
 have HT:=hid (ticks_any A n cap L p w h hc hn ht);have HY:=hid fun W (hb:Below w.heap.size w W)=>tidy_any A n cap L W (h.on hb) hc hn ht;have hle:=tidy_le L;rw[h.len] at hle;have h1:=gapL_none (L:=L) (p:=p);have h2:=gapL_mo (L:=L) (p:=p);have htt:=ticks_tidy L;generalize gapL (wordsL L) p=R at h1 h2 ⊢;generalize tkOf p L=tk at HT h1 h2;generalize tidy L=T at HY hle h2 htt;rw[← htt] at ht;clear h htt;by_cases h0:tk=0
 ·have e:=h1 h0;subst e;subst h0;clear h1 h2 HY;go_enter Tryz.func140,Tryz.ntmps140;go_wp2_with fail;refine HT.out.mono ?_;rintro e w1⟨rfl,hb1⟩;go_wp2_with fail;go_ret;exact Ans.mk rfl hb1
 have HR:=hid (h2 h0);have htk:((tk:Int) == 0)=false:=beq_eq_false_iff_ne.2 (by omega);clear h1 h2;go_enter Tryz.func140,Tryz.ntmps140;go_wp2_with fail;refine HT.out.mono ?_;rintro e w1⟨rfl,hb1⟩;go_wp2_with fail;refine(HY.out w1 hb1).mono ?_;rintro e w2⟨A1,c1,rfl,hr1,hc1,hb2,_⟩;generalize hm1:T.length=m at hr1 hc1 hle HR;go_wp2_with fail;refine(waits_any A1 m c1 T p w2 hr1 hc1 (by omega) ht).mono ?_;rintro e w3⟨g,rfl,hV,hb3,hg⟩;have hr3:=hr1.on hb3;have HB:=hid (hb1.trans ((hb2.mono hb1.size).trans (hb3.mono (Nat.le_trans hb1.size hb2.size))));clear hr1 hb1 hb2 hb3 hg HT HY hm1;go_wp2_with fail;go_loopw [5,6,7,18] (fun a _ _ s wr=>∃ i k:Nat,i≤m∧s=.int .i64 i∧a=.int .i64 k∧k=mo p (fun i _=>wt p T i) T i∧wr=w3) (fun _ _ _ s _=>m - (intOf s).toNat)
 case atStart=>exact⟨0,0,by omega,rfl,rfl,rfl,rfl⟩
 obtain⟨i,k,hi,rfl,rfl,hk,hw⟩:=hrel;have hw':=hw.symm;clear hw;subst hw';by_cases hlt:i < m
 ·obtain⟨ad,r,rfl,had,hr,c0,c1⟩:=hr3.at_ hlt;have d0:=hV.cell i hlt;by_cases hp:r.p=p
  ·have hmo:=mo_yes (g:=fun i _=>wt p T i) hr hp;rw[← hk] at hmo;have hpb:(r.p == p)=true:=beq_iff_eq.2 hp;have HMO:=hid hmo;have HHV:=hid hV;generalize wt p T i=x at d0 HMO;clear hp hmo hk hr hV;go_wp2_with fail;go_roundw
   case rel=>exact⟨i+1,max k x,by omega,by go_num,by first | (congr 1;done) | (congr 1;first | omega | (split <;> omega)),HMO.out.symm,trivial⟩
   simp[intOf];omega
  have hmo:=mo_no (g:=fun i _=>wt p T i) hr hp;rw[← hk] at hmo;have hpb:(r.p == p)=false:=beq_eq_false_iff_ne.2 hp;have HMO:=hid hmo;have HHV:=hid hV;clear hp hmo hk hr hV;go_wp2_with fail;go_roundw
  case rel=>exact⟨i+1,k,by omega,by go_num,rfl,HMO.out.symm,trivial⟩
  simp[intOf];omega
 obtain rfl:i=m:=by omega
 have hR:R=(k:Int):=by rw[HR.out,hk]
 have HR2:=hid hR;clear hR hk;go_wp2_with fail;go_ret;exact Ans.mk (by rw[HR2.out];rfl) HB.out
theorem blate_any(A:Option Addr)(n cap:Nat)(L:List Rn)(p q:Int)(w:World)(h:RdR w w.heap.size A n L)(hc:n≤cap)(hn:n≤1048576)(ht:ticks L≤1099511627776):
  Calls Tryz.prog 126 #[.slice A n cap,.int .i64 p,.int .i64 q] w (Ans (.int .i64 (lateL (wordsL L) p q)) w):=by
 have HT:=hid (ticks_any A n cap L p w h hc hn ht);have HT2:=hid fun W (hb:Below w.heap.size w W)=>ticks_any A n cap L q W (h.on hb) hc hn ht;have HG:=hid fun W (hb:Below w.heap.size w W)=>bgaps_any A n cap L q W (h.on hb) hc hn ht;have HY:=hid fun W (hb:Below w.heap.size w W)=>tidy_any A n cap L W (h.on hb) hc hn ht;have hle:=tidy_le L;rw[h.len] at hle;have h1:=lateL_none (L:=L) (p:=p) (q:=q);have h2:=lateL_never (L:=L) (p:=p) (q:=q);have h3:=lateL_mo (L:=L) (p:=p) (q:=q);have h4:tkOf p L≠0→p=q→lateL (wordsL L) p q=gapL (wordsL L) q+1∧0≤gapL (wordsL L) q∧gapL (wordsL L) q≤1099511627777:=by
  rintro e rfl;rw[gapL_mo e,lateL_self e];refine⟨rfl,by omega,?_⟩;have e2:=lateL_le (wordsL L) p p;rw[lateL_self e,wordsL_len] at e2;omega
 have htt:=ticks_tidy L;generalize gapL (wordsL L) q=G at HG h4;generalize lateL (wordsL L) p q=R at h1 h2 h3 h4 ⊢;have hpq:p=q→tkOf p L=tkOf q L:=by rintro rfl;rfl
 generalize tkOf p L=tk at HT h1 h2 h3 h4 hpq;generalize tkOf q L=tk2 at HT2 h2 h3 hpq;generalize tidy L=T at HY hle h3 htt;rw[← htt] at ht;clear h htt;by_cases h0:tk=0
 ·have e:=h1 h0;subst e;subst h0;clear h1 h2 h3 h4 HY HT2 HG hpq;go_enter Tryz.func126,Tryz.ntmps126;go_wp2_with fail;refine HT.out.mono ?_;rintro e w1⟨rfl,hb1⟩;go_wp2_with fail;go_ret;exact Ans.mk rfl hb1
 have htk:((tk:Int) == 0)=false:=beq_eq_false_iff_ne.2 (by omega);by_cases h00:tk2=0
 ·have e:=h2 h0 h00;subst e;subst h00;clear h1 h2 h3 h4 HY HG hpq;go_enter Tryz.func126,Tryz.ntmps126;go_wp2_with fail;refine HT.out.mono ?_;rintro e w1⟨rfl,hb1⟩;go_wp2_with fail;refine(HT2.out w1 hb1).mono ?_;rintro e w2⟨rfl,hb2⟩;have HB:=hid (hb1.trans (hb2.mono hb1.size));clear hb1 hb2;go_wp2_with fail;go_ret;exact Ans.mk rfl HB.out
 have htk2:((tk2:Int) == 0)=false:=beq_eq_false_iff_ne.2 (by omega);by_cases hpe:p=q
 ·obtain⟨e1,e2,e3⟩:=h4 h0 hpe;subst hpe;have HE:=hid e1;clear h1 h2 h3 h4 HY hpq e1;go_enter Tryz.func126,Tryz.ntmps126;go_wp2_with fail;refine HT.out.mono ?_;rintro e w1⟨rfl,hb1⟩;go_wp2_with fail;refine(HT2.out w1 hb1).mono ?_;rintro e w2⟨rfl,hb2⟩;have hb:=hb1.trans (hb2.mono hb1.size);clear hb1 hb2;go_wp2_with fail;refine(HG.out w2 hb).mono ?_;rintro e w3⟨rfl,hb3⟩;have HB:=hid (hb.trans (hb3.mono hb.size));clear hb hb3;go_wp2_with fail;refine(bmore_any G 1 _ _ _ (by omega) (by omega) (by omega) rfl rfl).mono ?_;rintro e w4⟨rfl,rfl⟩;go_wp2_with fail;go_ret;exact Ans.mk (by rw[HE.out];rfl) HB.out
 have HR:=hid (h3 h0 h00 hpe);have hpb:(p == q)=false:=beq_eq_false_iff_ne.2 hpe;clear h1 h2 h3 h4 HG hpq hpe;go_enter Tryz.func126,Tryz.ntmps126;go_wp2_with fail;refine HT.out.mono ?_;rintro e w1⟨rfl,hb1⟩;go_wp2_with fail;refine(HT2.out w1 hb1).mono ?_;rintro e w1'⟨rfl,hb2⟩;have hb:=hb1.trans (hb2.mono hb1.size);clear hb1 hb2;go_wp2_with fail;refine(HY.out w1' hb).mono ?_;rintro e w2⟨A1,c1,rfl,hr1,hc1,hb2,_⟩;generalize hm1:T.length=m at hr1 hc1 hle HR;go_wp2_with fail;refine(waits_any A1 m c1 T q w2 hr1 hc1 (by omega) ht).mono ?_;rintro e w3⟨g,rfl,hV,hb3,hg⟩;have hr3:=hr1.on hb3;have HB:=hid (hb.trans ((hb2.mono hb.size).trans (hb3.mono (Nat.le_trans hb.size hb2.size))));clear hr1 hb hb2 hb3 hg HT HT2 HY hm1;go_wp2_with fail;go_loopw [7,8,9,31] (fun a _ _ s wr=>∃ i k:Nat,i≤m∧s=.int .i64 i∧a=.int .i64 k∧k=mo p (fun i n=>wt q T i+n) T i∧wr=w3) (fun _ _ _ s _=>m - (intOf s).toNat)
 case atStart=>exact⟨0,0,by omega,rfl,rfl,rfl,rfl⟩
 obtain⟨i,k,hi,rfl,rfl,hk,hw⟩:=hrel;have hw':=hw.symm;clear hw;subst hw';by_cases hlt:i < m
 ·obtain⟨ad,r,rfl,had,hr,c0,c1⟩:=hr3.at_ hlt;have d0:=hV.cell i hlt;have hx:=wt_le q T i;have hrt:r.n≤ticks T:=mem_ticks (List.mem_of_getElem? hr);by_cases hp:r.p=p
  ·have hmo:=mo_yes (g:=fun i n=>wt q T i+n) hr hp;rw[← hk] at hmo;have hpb2:(r.p == p)=true:=beq_iff_eq.2 hp;have HMO:=hid hmo;have HHV:=hid hV;generalize wt q T i=x at d0 HMO hx;clear hp hmo hk hr hV;go_wp2_with fail;refine(bmore_any (x:Int) (r.n:Int) _ _ _ (by omega) (by omega) (by omega) rfl rfl).mono ?_;rintro e w4⟨rfl,rfl⟩;go_wp2_with fail;go_roundw
   case rel=>exact⟨i+1,max k (x+r.n),by omega,by go_num,by first | (congr 1;done) | (congr 1;first | omega | (split <;> omega)),HMO.out.symm,trivial⟩
   simp[intOf];omega
  have hmo:=mo_no (g:=fun i n=>wt q T i+n) hr hp;rw[← hk] at hmo;have hpb2:(r.p == p)=false:=beq_eq_false_iff_ne.2 hp;have HMO:=hid hmo;have HHV:=hid hV;clear hp hmo hk hr hV;go_wp2_with fail;go_roundw
  case rel=>exact⟨i+1,k,by omega,by go_num,rfl,HMO.out.symm,trivial⟩
  simp[intOf];omega
 obtain rfl:i=m:=by omega
 have hR:R=(k:Int):=by rw[HR.out,hk]
 have HR2:=hid hR;clear hR hk;go_wp2_with fail;go_ret;exact Ans.mk (by rw[HR2.out];rfl) HB.out
end Go.Proofs.YtdkngfdnfekgfaaGreat
