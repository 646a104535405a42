import Derived.Test.YtfddpnhaejkacaaGreatLow9
import Derived.Test.YtfddpnhaejkacaaGreatLow5
import Derived.BigQuiet
import Derived.Test.YtfddpnhaejkacaaGreatLow6
import Derived.Deep.Cut
import Derived.Test.YtfddpnhaejkacaaGreatLow1
import Derived.Test.YtfddpnhaejkacaaGreatLow3
import Derived.Test.YtfddpnhaejkacaaGreatLow10
import Derived.Test.YtfddpnhaejkacaaGreatLow4
import Derived.Test.YtfddpnhaejkacaaGreatLow7
set_option linter.unusedSimpArgs false
set_option linter.unusedVariables false
namespace Go.Proofs.YtfddpnhaejkacaaGreat
namespace Tab
def mat (I:Itr) (p k:Nat):Prop:=sameAt I k (k+p)=true
theorem mat_room {I:Itr} {p k:Nat} (h:mat I p k):k+p < I.length:=(sameAt_iff h).2
theorem fwdI_stop (I:Itr) (p:Nat):∀ f tt,I.length≤tt+f→¬ mat I p (fwdI I p f tt):=by
 intro f
 induction f with
 | zero =>
  intro tt h hm
  have:=mat_room hm
  simp only[fwdI] at this
  omega
 | succ f ih =>
  intro tt h
  simp only[fwdI]
  split
  ·exact ih (tt+1) (by omega)
  ·rename_i hc
   intro hm
   exact hc ⟨mat_room hm,hm⟩
def runI (I:Itr) (p i:Nat):Nat:=fwdI I p I.length i
theorem runI_ge (I:Itr) (p i:Nat):i≤runI I p i:=fwdI_ge I p _ i
theorem runI_le {I:Itr} {p i:Nat} (h:i+p≤I.length):runI I p i+p≤I.length:=fwdI_le I p _ i h
theorem runI_mat {I:Itr} {p i k:Nat} (h1:i≤k) (h2:k < runI I p i):mat I p k:=fwdI_same I p _ i k h1 h2
theorem runI_stop (I:Itr) (p i:Nat):¬ mat I p (runI I p i):=fwdI_stop I p _ i (by omega)
theorem runI_is {I:Itr} {p i t:Nat} (h1:i≤t) (hm:∀ k,i≤k→k < t→mat I p k) (hs:¬ mat I p t):runI I p i=t:=by
 rcases Nat.lt_trichotomy (runI I p i) t with h | h | h
 ·exact absurd (hm _ (runI_ge I p i) h) (runI_stop I p i)
 ·exact h
 ·exact absurd (runI_mat h1 h) hs
theorem runI_from {I:Itr} {p i j:Nat} (h1:i≤j) (hm:∀ k,i≤k→k < j→mat I p k):runI I p i=runI I p j :=
 runI_is (Nat.le_trans h1 (runI_ge I p j)) (fun k h2 h3=>by
  rcases Nat.lt_or_ge k j with h | h
  ·exact hm k h2 h
  ·exact runI_mat h h3) (runI_stop I p j)
def timI (I:Itr) (i p:Nat):Nat:=(runI I p i - i) / p+1
theorem timI_two {I:Itr} {i p:Nat} (hp:1≤p):2≤timI I i p↔i+p≤runI I p i:=by
 have h1:=runI_ge I p i
 unfold timI
 constructor
 ·intro h
  have h2:1≤(runI I p i - i) / p:=by omega
  have h3:=(Nat.le_div_iff_mul_le hp).1 h2
  omega
 ·intro h
  have h2:1≤(runI I p i - i) / p:=(Nat.le_div_iff_mul_le hp).2 (by omega)
  omega
theorem timI_room {I:Itr} {i p:Nat} (hp:1≤p) (hi:i+p≤I.length):i+(timI I i p - 1)*p≤runI I p i∧i+timI I i p*p≤I.length:=by
 have h1:=runI_ge I p i
 have h2:=runI_le hi
 have h3:=Nat.div_mul_le_self (runI I p i - i) p
 unfold timI
 rw[Nat.add_sub_cancel,Nat.succ_mul]
 omega
theorem timI_is {I:Itr} {i p n:Nat} (hp:1≤p) (hn:1≤n) (hm:∀ k,i≤k→k < i+(n - 1)*p→mat I p k) (hs:¬ ∀ k,i≤k→k < i+n*p→mat I p k):timI I i p=n:=by
 have h1:=runI_ge I p i
 have h2:i+(n - 1)*p≤runI I p i:=by
  rcases Nat.lt_or_ge (runI I p i) (i+(n - 1)*p) with h | h
  ·exact absurd (hm _ h1 h) (runI_stop I p i)
  ·exact h
 have h3:runI I p i < i+n*p:=by
  rcases Nat.lt_or_ge (runI I p i) (i+n*p) with h | h
  ·exact h
  ·exact absurd (fun k h4 h5=>runI_mat h4 (by omega)) hs
 have h4:(runI I p i - i) / p=n - 1:=by
  refine Nat.div_eq_of_lt_le ?_ ?_
  ·omega
  ·have:(n - 1+1)*p=n*p:=by rw[Nat.sub_add_cancel hn]
   rw[this]
   omega
 unfold timI
 omega
def pre (I:Itr) (k:Nat):Nat:=szI (I.take k)
def szW (I:Itr) (i p:Nat):Nat:=szI ((I.drop i).take p)
theorem szW_pre (I:Itr) (i p:Nat):pre I (i+p)=pre I i+szW I i p:=by
 unfold pre szW
 rw[List.take_add,szI_append]
theorem pre_more {I:Itr} {k:Nat} {x:List Nd} (h:I[k]? = some x):pre I (k+1)=pre I k+x.length:=szI_more h
theorem szW_next {I:Itr} {p k:Nat} (h:mat I p k):szW I (k+1) p=szW I k p:=by
 obtain⟨h1,h2⟩:=sameAt_iff h
 obtain⟨x,hx⟩:∃ x,I[k+p]? = some x:=⟨_,List.getElem?_eq_getElem h2⟩
 have a:=szW_pre I k p
 have b:=szW_pre I (k+1) p
 have c:=pre_more (h1.trans hx)
 have d:=pre_more hx
 rw[show k+1+p=k+p+1 by omega] at b
 omega
theorem szW_same {I:Itr} {p i j:Nat} (h1:i≤j) (hm:∀ k,i≤k→k < j→mat I p k):szW I j p=szW I i p:=by
 induction j with
 | zero=>rw[show i=0 by omega]
 | succ j ih =>
  rcases Nat.lt_or_ge i (j+1) with h | h
  ·rw[szW_next (hm j (by omega) (by omega)),ih (by omega) fun k h2 h3=>hm k h2 (by omega)]
  ·rw[show i=j+1 by omega]
theorem szW_times {I:Itr} {p i:Nat}:∀ n,(∀ k,i≤k→k < i+(n - 1)*p→mat I p k)→pre I (i+n*p)=pre I i+n*szW I i p:=by
 intro n
 induction n with
 | zero=>intro _;simp
 | succ n ih =>
  intro hm
  have h1:=ih fun k h2 h3=>hm k h2 (by
   have:(n - 1)*p≤(n+1 - 1)*p:=Nat.mul_le_mul_right _ (by omega)
   omega)
  have h2:=szW_pre I (i+n*p) p
  have h3:szW I (i+n*p) p=szW I i p:=szW_same (by omega) fun k h4 h5=>hm k h4 (by rw[Nat.add_sub_cancel];exact h5)
  rw[Nat.succ_mul,Nat.succ_mul,← Nat.add_assoc,h2,h1,h3]
  omega
theorem szW_ge {I:Itr} (hne:∀ x∈I,1≤x.length):∀ p i,i+p≤I.length→p≤szW I i p:=by
 intro p
 induction p with
 | zero=>intro i _;exact Nat.zero_le _
 | succ p ih =>
  intro i hi
  obtain⟨x,hx⟩:∃ x,I[i+p]? = some x:=⟨_,List.getElem?_eq_getElem (by omega)⟩
  have a:=szW_pre I i p
  have b:=szW_pre I i (p+1)
  have c:=pre_more hx
  have d:=hne x (List.mem_of_getElem? hx)
  have e:=ih i (by omega)
  rw[show i+(p+1)=i+p+1 by omega] at b
  omega
theorem pre_le (I:Itr) (k:Nat):pre I k≤szI I:=szI_take I k
def savA (I:Itr) (i p:Nat):Int:=savI ((I.drop i).take p) (timI I i p)
def Cand (I:Itr) (i p:Nat):Prop:=1≤p∧i+2*p≤I.length∧2≤timI I i p
theorem savA_at {I:Itr} {i p:Nat} (h:Cand I i p):savA I i p=((szW I i p*(timI I i p - 1):Nat):Int) - 1 - (if 1 < p then 1 else 0):=by
 obtain⟨h1,h2,h3⟩:=h
 unfold savA savI szW
 have e:((I.drop i).take p).length=p:=by rw[List.length_take,List.length_drop];omega
 rw[if_neg (by omega),e]
theorem savA_lt {I:Itr} (hne:∀ x∈I,1≤x.length) {i p:Nat} (h:Cand I i p):savA I i p < (szI I:Int) - p:=by
 have h0:=savA_at h
 obtain⟨h1,h2,h3⟩:=h
 obtain⟨h4,h5⟩:=timI_room (I:=I) (i:=i) h1 (by omega)
 have h6:=szW_times (I:=I) (p:=p) (i:=i) (timI I i p) fun k h7 h8=>runI_mat h7 (by omega)
 have h7:=pre_le I (i+timI I i p*p)
 have h8:=szW_ge hne p i (by omega)
 obtain⟨m,hm⟩:∃ m,timI I i p=m+1:=⟨timI I i p - 1,by omega⟩
 rw[hm,Nat.add_sub_cancel,Nat.mul_comm] at h0
 rw[hm,Nat.add_mul m 1 (szW I i p),Nat.one_mul] at h6
 rw[hm] at h7
 split at h0 <;> omega
def Beats (s:Bst) (v:Int) (j q:Nat):Prop:=v < s.most∨(v=s.most∧(s.at_ < j∨(s.at_=j∧s.p≤q)))
def Made (I:Itr) (s:Bst):Prop:=s=⟨0,0,0,0⟩∨(Cand I s.at_ s.p∧s.n=timI I s.at_ s.p∧s.most=savA I s.at_ s.p∧0 < s.most)
theorem Made.nn {I:Itr} {s:Bst} (h:Made I s):0≤s.most:=by
 rcases h with rfl | h
 ·exact Int.le_refl _
 ·have:=h.2.2.2;omega
def Opt (I:Itr) (s:Bst):Prop:=Made I s∧∀ j q,Cand I j q→Beats s (savA I j q) j q
theorem Opt.same {I:Itr} {s t:Bst} (hs:Opt I s) (ht:Opt I t):s=t:=by
 obtain⟨h1,h2⟩:=hs
 obtain⟨h3,h4⟩:=ht
 rcases h1 with e1 | ⟨c1,n1,m1,p1⟩
 ·rcases h3 with e3 | ⟨c3,n3,m3,p3⟩
  ·rw[e1,e3]
  ·exfalso
   have:=h2 _ _ c3
   rw[← m3,e1] at this
   unfold Beats at this
   dsimp only at this
   omega
 ·rcases h3 with e3 | ⟨c3,n3,m3,p3⟩
  ·exfalso
   have:=h4 _ _ c1
   rw[← m1,e3] at this
   unfold Beats at this
   dsimp only at this
   omega
  ·have a:=h2 _ _ c3
   have b:=h4 _ _ c1
   rw[← m3] at a
   rw[← m1] at b
   unfold Beats at a b
   have e1:s.most=t.most:=by omega
   have e2:s.at_=t.at_:=by omega
   have e3:s.p=t.p:=by omega
   have e4:s.n=t.n:=by rw[n1,n3,e2,e3]
   obtain⟨sm,sa,sp,sn⟩:=s
   obtain⟨tm,ta,tp,tn⟩:=t
   dsimp only at e1 e2 e3 e4
   rw[e1,e2,e3,e4]
theorem Beats.far {s:Bst} {u v:Int} {i j q:Nat} (h:Beats s u i q) (hv:v≤u) (hij:i≤j):Beats s v j q:=by
 unfold Beats at h ⊢
 omega
theorem often_tim {I:Itr} {q place:Nat}:oftenI I q place=timI I (backI I q place) q∧savedI I q place=savA I (backI I q place) q:=by
 have e:oftenI I q place=timI I (backI I q place) q:=by
  unfold oftenI timI
  rw[show fwdI I q I.length place=runI I q place from rfl,← runI_from (backI_le I q place) (fun k h1 h2=>backI_same I q place k h1 h2)]
 refine⟨e,?_⟩
 unfold savedI savA
 rw[e]
theorem pick_made {I:Itr} {q place:Nat} {s:Bst} (hq:1≤q) (hp:place+q < I.length) (h:Made I s):Made I (pickI I q place s):=by
 obtain⟨e1,e2⟩:=often_tim (I:=I) (q:=q) (place:=place)
 unfold pickI
 rw[e1,e2]
 split
 ·rename_i hc
  have h0:=h.nn
  have hpos:0 < savA I (backI I q place) q:=by
   rcases hc with hc | ⟨hc,hlt⟩
   ·omega
   ·rcases h with rfl | h
    ·simp at hlt
    ·have:=h.2.2.2;omega
  have hn:=savI_pos hpos
  have hb:=backI_le I q place
  have hr:=(timI_two hq).1 hn
  have hl:=runI_le (I:=I) (p:=q) (i:=backI I q place) (by omega)
  exact .inr ⟨⟨hq,by dsimp only;omega,hn⟩,rfl,rfl,hpos⟩
 ·exact h
theorem pick_p {I:Itr} {q place:Nat} {s:Bst} (h:s.p≤q):(pickI I q place s).p≤q:=by
 unfold pickI
 split
 ·exact Nat.le_refl _
 ·exact h
theorem pick_old {I:Itr} {q place:Nat} {s:Bst} {v:Int} {j r:Nat} (h:Beats s v j r):Beats (pickI I q place s) v j r:=by
 unfold pickI
 split
 ·rename_i hc
  unfold Beats at h ⊢
  dsimp only
  omega
 ·exact h
theorem pick_new {I:Itr} {q place:Nat} {s:Bst} (h:s.p≤q):Beats (pickI I q place s) (savA I (backI I q place) q) (backI I q place) q:=by
 obtain⟨e1,e2⟩:=often_tim (I:=I) (q:=q) (place:=place)
 unfold pickI
 rw[e1,e2]
 split
 ·unfold Beats
  dsimp only
  omega
 ·rename_i hc
  unfold Beats
  omega
theorem savA_back {I:Itr} {i j q:Nat} (hq:1≤q) (hij:i≤j) (hm:∀ k,i≤k→k < j→mat I q k) (hj:Cand I j q):Cand I i q∧savA I j q≤savA I i q:=by
 have e:=runI_from hij hm
 have h1:=(timI_two hq).1 hj.2.2
 have h2:Cand I i q:=⟨hq,by have:=hj.2.1;omega,(timI_two hq).2 (by omega)⟩
 refine⟨h2,?_⟩
 rw[savA_at h2,savA_at hj,szW_same hij hm]
 have h3:timI I j q≤timI I i q:=by
  unfold timI
  rw[e]
  exact Nat.succ_le_succ (Nat.div_le_div_right (by omega))
 have h4:szW I i q*(timI I j q - 1)≤szW I i q*(timI I i q - 1):=Nat.mul_le_mul_left _ (by omega)
 omega
theorem pick_done {I:Itr} {q place:Nat} {s:Bst} (hq:1≤q) (hs:s.p≤q) (hd:∀ j,j+q≤place→Cand I j q→Beats s (savA I j q) j q) :
  ∀ j,j≤fwdI I q I.length place→Cand I j q→Beats (pickI I q place s) (savA I j q) j q:=by
 intro j hj hc
 have hf:fwdI I q I.length place=runI I q place:=rfl
 rw[hf] at hj
 by_cases h1:j+q≤place
 ·exact pick_old (hd j h1 hc)
 ·have hb:=backI_le I q place
  have hr:=(timI_two hq).1 hc.2.2
  have hbj:backI I q place≤j∧∀ k,backI I q place≤k→k < j→mat I q k:=by
   by_cases h2:j≤place
   ·have h3:backI I q place≤j:=by
     rcases Nat.lt_or_ge j (backI I q place) with h | h
     ·exfalso
      have key:∀ k,j≤k→k≤place→backI I q k≤j:=by
       intro k
       induction k with
       | zero=>intro _ _;simp[backI]
       | succ k ih =>
        intro h5 h6
        rcases Nat.lt_or_ge j (k+1) with h7 | h7
        ·have hm:mat I q k:=runI_mat (i:=j) (by omega) (by omega)
         simp only[backI]
         rw[if_pos (show sameAt I k (k+q)=true from hm)]
         exact ih (by omega) (by omega)
        ·rw[show j=k+1 by omega]
         exact backI_le I q (k+1)
      have:=key place h2 (Nat.le_refl _)
      omega
     ·exact h
    exact⟨h3,fun k h4 h5=>backI_same I q place k h4 (by omega)⟩
   ·refine⟨by omega,fun k h4 h5=>?_⟩
    rcases Nat.lt_or_ge k place with h6 | h6
    ·exact backI_same I q place k h4 h6
    ·exact runI_mat h6 (by omega)
  obtain⟨h7,h8⟩:=savA_back hq hbj.1 hbj.2 hc
  exact(pick_new hs).far h8 hbj.1
theorem inner_opt {I:Itr} {q:Nat} (hq:1≤q):∀ f place s,I.length≤place+f→Made I s→s.p≤q→(∀ j r,r < q→Cand I j r→Beats s (savA I j r) j r)→(∀ j,j+q≤place→Cand I j q→Beats s (savA I j q) j q) →
  Made I (innerI I q f place s)∧(innerI I q f place s).p≤q∧∀ j r,r≤q→Cand I j r→Beats (innerI I q f place s) (savA I j r) j r:=by
 intro f
 induction f with
 | zero =>
  intro place s hl hm hp ho hd
  refine⟨hm,hp,fun j r hr hc=>?_⟩
  rcases Nat.lt_or_ge r q with h | h
  ·exact ho j r h hc
  ·obtain rfl:r=q:=by omega
   exact hd j (by have:=hc.2.1;omega) hc
 | succ f ih =>
  intro place s hl hm hp ho hd
  by_cases hc:place+q < I.length
  ·have e:innerI I q (f+1) place s=innerI I q f (fwdI I q I.length place+q) (pickI I q place s):=by simp only[innerI];rw[if_pos hc]
   rw[e]
   have hg:=fwdI_ge I q I.length place
   refine ih _ _ (by omega) (pick_made hq hc hm) (pick_p hp) (fun j r hr hcd=>pick_old (ho j r hr hcd)) fun j hj hcd=>?_
   exact pick_done hq hp hd j (by omega) hcd
  ·have e:innerI I q (f+1) place s=s:=by simp only[innerI];rw[if_neg hc]
   rw[e]
   refine⟨hm,hp,fun j r hr hcd=>?_⟩
   rcases Nat.lt_or_ge r q with h | h
   ·exact ho j r h hcd
   ·obtain rfl:r=q:=by omega
    exact hd j (by have:=hcd.2.1;omega) hcd
theorem outer_opt {I:Itr} (hne:∀ x∈I,1≤x.length):∀ f q s,1≤q→I.length < q+f→Made I s→s.p < q→(∀ j r,r < q→Cand I j r→Beats s (savA I j r) j r)→Opt I (outerI I f q s):=by
 intro f
 induction f with
 | zero =>
  intro q s hq hl hm hp ho
  exact⟨hm,fun j r hc=>ho j r (by have:=hc.2.1;have:=hc.1;omega) hc⟩
 | succ f ih =>
  intro q s hq hl hm hp ho
  by_cases hc:2*q≤I.length∧s.most < (szI I:Int) - q
  ·have e:outerI I (f+1) q s=outerI I f (q+1) (innerI I q I.length (q - 1) s):=by simp only[outerI];rw[if_pos hc]
   rw[e]
   obtain⟨h1,h2,h3⟩:=inner_opt hq I.length (q - 1) s (by omega) hm (by omega) ho (fun j hj _=>by omega)
   exact ih (q+1) _ (by omega) (by omega) h1 (by omega) fun j r hr hcd=>h3 j r (by omega) hcd
  ·have e:outerI I (f+1) q s=s:=by simp only[outerI];rw[if_neg hc]
   rw[e]
   refine⟨hm,fun j r hcd=>?_⟩
   rcases Nat.lt_or_ge r q with h | h
   ·exact ho j r h hcd
   ·have h1:=savA_lt hne hcd
    have h2:=hcd.2.1
    refine .inl ?_
    by_cases h3:2*q≤I.length
    ·have h4:¬ s.most < (szI I:Int) - q:=fun h5=>hc ⟨h3,h5⟩
     omega
    ·omega
theorem bestI_opt {I:Itr} (hne:∀ x∈I,1≤x.length):Opt I (bestI I) :=
 outer_opt hne I.length 1 ⟨0,0,0,0⟩ (by omega) (by omega) (.inl rfl) (by show 0 < 1;omega) fun j r hr hc=>by have:=hc.1;omega
def updR (I:Itr) (i p:Nat) (s:Bst):Bst:=if 1 < timI I i p∧s.most < savA I i p then ⟨savA I i p,i,p,timI I i p⟩ else s
def rowR (I:Itr) (i:Nat):Nat→Nat→Bst→Bst
 | 0,_,s=>s
 | f+1,p,s=>if i+2*p≤I.length then rowR I i f (p+1) (updR I i p s) else s
def colR (I:Itr):Nat→Nat→Bst→Bst
 | 0,_,s=>s
 | f+1,i,s=>if i < I.length then colR I f (i+1) (rowR I i I.length 1 s) else s
def bestR (I:Itr):Bst:=colR I I.length 0 ⟨0,0,0,0⟩
theorem rowR_opt {I:Itr} {i:Nat}:∀ f p s,1≤p→I.length < p+f→Made I s→(s.at_ < i∨(s.at_=i∧s.p < p))→(∀ j r,(j < i∨(j=i∧r < p))→Cand I j r→Beats s (savA I j r) j r) →
  Made I (rowR I i f p s)∧(rowR I i f p s).at_≤i∧∀ j r,j≤i→Cand I j r→Beats (rowR I i f p s) (savA I j r) j r:=by
 intro f
 induction f with
 | zero =>
  intro p s hp hl hm ha ho
  exact⟨hm,by show s.at_≤i;omega,fun j r hj hc=>ho j r (by have:=hc.2.1;have:=hc.1;omega) hc⟩
 | succ f ih =>
  intro p s hp hl hm ha ho
  by_cases hc:i+2*p≤I.length
  ·have e:rowR I i (f+1) p s=rowR I i f (p+1) (updR I i p s):=by simp only[rowR];rw[if_pos hc]
   rw[e]
   have h0:=hm.nn
   by_cases hu:1 < timI I i p∧s.most < savA I i p
   ·have eu:updR I i p s=⟨savA I i p,i,p,timI I i p⟩:=if_pos hu
    rw[eu]
    refine ih (p+1) _ (by omega) (by omega) (.inr ⟨⟨hp,hc,hu.1⟩,rfl,rfl,by show 0 < savA I i p;omega⟩) (.inr ⟨rfl,by show p < p+1;omega⟩) fun j r hj hcd=>?_
    by_cases hn:j=i∧r=p
    ·obtain⟨rfl,rfl⟩:=hn
     exact .inr ⟨rfl,.inr ⟨rfl,Nat.le_refl _⟩⟩
    ·have h1:=ho j r (by omega) hcd
     unfold Beats at h1 ⊢
     dsimp only
     omega
   ·have eu:updR I i p s=s:=if_neg hu
    rw[eu]
    refine ih (p+1) _ (by omega) (by omega) hm (by omega) fun j r hj hcd=>?_
    by_cases hn:j=i∧r=p
    ·obtain⟨rfl,rfl⟩:=hn
     have h1:¬ s.most < savA I j r:=fun h2=>hu ⟨by have:=hcd.2.2;omega,h2⟩
     unfold Beats
     omega
    ·exact ho j r (by omega) hcd
  ·have e:rowR I i (f+1) p s=s:=by simp only[rowR];rw[if_neg hc]
   rw[e]
   exact⟨hm,by omega,fun j r hj hcd=>ho j r (by have:=hcd.2.1;omega) hcd⟩
theorem colR_opt {I:Itr}:∀ f i s,I.length≤i+f→Made I s→(s.at_ < i∨s=⟨0,0,0,0⟩)→(∀ j r,j < i→Cand I j r→Beats s (savA I j r) j r)→Opt I (colR I f i s):=by
 intro f
 induction f with
 | zero =>
  intro i s hl hm ha ho
  exact⟨hm,fun j r hc=>ho j r (by have:=hc.2.1;have:=hc.1;omega) hc⟩
 | succ f ih =>
  intro i s hl hm ha ho
  by_cases hc:i < I.length
  ·have e:colR I (f+1) i s=colR I f (i+1) (rowR I i I.length 1 s):=by simp only[colR];rw[if_pos hc]
   rw[e]
   obtain⟨h1,h2,h3⟩:=rowR_opt (I:=I) (i:=i) I.length 1 s (by omega) (by omega) hm (by
    rcases ha with ha | ha
    ·exact .inl ha
    ·subst ha
     dsimp only
     omega) fun j r hj hcd=>ho j r (by have:=hcd.1;omega) hcd
   exact ih (i+1) _ (by omega) h1 (.inl (by omega)) fun j r hj hcd=>h3 j r (by omega) hcd
  ·have e:colR I (f+1) i s=s:=by simp only[colR];rw[if_neg hc]
   rw[e]
   exact⟨hm,fun j r hcd=>ho j r (by have:=hcd.2.1;have:=hcd.1;omega) hcd⟩
theorem bestR_is {I:Itr} (hne:∀ x∈I,1≤x.length):bestR I=bestI I :=
 (colR_opt I.length 0 ⟨0,0,0,0⟩ (by omega) (.inl rfl) (.inr rfl) fun j r hj _=>by omega).same (bestI_opt hne)
def BlkI (I:Itr) (i p m:Nat):Prop:=∀ k,k < p→sameAt I (i+k) (i+m*p+k)=true
theorem sameAt_of {I:Itr} {a b:Nat} (h:I[a]? = I[b]?) (hb:b < I.length):sameAt I a b=true:=by
 have hx:=List.getElem?_eq_getElem hb
 rw[sameAt_eq (h.trans hx) hx]
 exact(sameN_iff _ _).2 rfl
theorem blk_mat {I:Itr} {i p n:Nat} (h:∀ m,1≤m→m < n→BlkI I i p m):∀ k,i≤k→k < i+(n - 1)*p→mat I p k:=by
 intro k h1 h2
 have hp:0 < p:=by
  rcases Nat.eq_zero_or_pos p with e | e
  ·subst e;omega
  ·exact e
 have hd:=Nat.div_add_mod (k - i) p
 have hlt:=Nat.mod_lt (k - i) hp
 obtain⟨m,hm⟩:∃ m,m=(k - i) / p:=⟨_,rfl⟩
 obtain⟨c,hc⟩:∃ c,c=(k - i) % p:=⟨_,rfl⟩
 rw[← hm,← hc,Nat.mul_comm] at hd
 rw[← hc] at hlt
 have hmn:m < n - 1:=by
  rcases Nat.lt_or_ge m (n - 1) with h3 | h3
  ·exact h3
  ·have:=Nat.mul_le_mul_right p h3
   omega
 have hk:k=i+m*p+c:=by omega
 have h3:=sameAt_iff (h (m+1) (by omega) (by omega) c hlt)
 rw[Nat.succ_mul] at h3
 have e1:I[i+c]? = I[k]?:=by
  rcases Nat.eq_zero_or_pos m with h4 | h4
  ·rw[hk,h4];congr 1;omega
  ·rw[hk];exact(sameAt_iff (h m (by omega) (by omega) c hlt)).1
 have e2:i+(m*p+p)+c=k+p:=by omega
 rw[e2] at h3
 exact sameAt_of (e1.symm.trans h3.1) h3.2
theorem blk_of {I:Itr} {i p m:Nat} (hm1:1≤m) (h:∀ k,i≤k→k < i+m*p→mat I p k):BlkI I i p m:=by
 intro c hc
 have key:∀ m,(∀ k,i≤k→k < i+m*p→mat I p k)→I[i+c]? = I[i+m*p+c]?:=by
  intro m
  induction m with
  | zero=>intro _;rw[Nat.zero_mul,Nat.add_zero]
  | succ m ih =>
   intro hm
   rw[Nat.succ_mul] at hm ⊢
   have h1:=(sameAt_iff (hm (i+m*p+c) (by omega) (by omega))).1
   rw[ih fun k h2 h3=>hm k h2 (by omega),h1]
   congr 1
   omega
 obtain⟨l,rfl⟩:∃ l,m=l+1:=⟨m - 1,by omega⟩
 refine sameAt_of (key (l+1) h) ?_
 rw[Nat.succ_mul] at h ⊢
 have:=mat_room (h (i+l*p+c) (by omega) (by omega))
 omega
theorem tim_blk {I:Itr} {i p n:Nat} (hp:1≤p) (hn:1≤n) (hb:∀ m,1≤m→m < n→BlkI I i p m) (hs:I.length < i+(n+1)*p∨¬ BlkI I i p n):timI I i p=n:=by
 refine timI_is hp hn (blk_mat hb) fun h=>?_
 rcases hs with hs | hs
 ·have h1:=mat_room (h (i+n*p - 1) (by have:=Nat.le_mul_of_pos_left p hn;omega) (by have:=Nat.le_mul_of_pos_left p hn;omega))
  rw[Nat.add_mul,Nat.one_mul] at hs
  have h2:=Nat.le_mul_of_pos_left p hn
  omega
 ·exact hs (blk_of hn h)
end Tab
end Go.Proofs.YtfddpnhaejkacaaGreat
namespace Go.Proofs.YtfddpnhaejkacaaGreat
open Go.RowKit Tab
open Lib (hid)
set_option maxRecDepth 100000 in
set_option maxHeartbeats 1600000 in
theorem rnodes_any (A1 A2:Option Addr) (n m c1 c2:Nat) (l1 l2:List Nd) (w:World) (h1:RdN w w.heap.size A1 n l1) (h2:RdN w w.heap.size A2 m l2) (hn:n≤1048576) :
  Calls Tryz.prog 24 #[.slice A1 n c1,.slice A2 m c2] w (Qui (.bool (sameN l1 l2)) w):=by
 by_cases hnm:n=m
 ·subst hnm
  generalize hb:sameN l1 l2=b
  have HB:=hid hb
  clear hb
  go_enter Tryz.func24,Tryz.ntmps24
  go_wp2_with fail
  go_loopw [5,13] (fun _ s wr=>∃ i q:Nat,i≤n∧s=.int .i64 i∧sameN (l1.drop i) (l2.drop i)=b∧wr=w.drewN q) (fun _ s _=>n - (intOf s).toNat)
  case atStart=>exact⟨0,0,by omega,rfl,by simpa using HB.out,rfl⟩
  case round =>
   obtain⟨i,q,hi,rfl,hs,rfl⟩:=hrel
   have HS:=hid hs
   clear hs
   by_cases hlt:i < n
   ·obtain⟨ad,x,rfl,_,hx,hin,c0,c1',c2'⟩:=h1.at_ hlt
    obtain⟨ad2,y,rfl,_,hy,hin2,d0,d1,d2⟩:=h2.at_ hlt
    have e1:=drop_cons hx
    have e2:=drop_cons hy
    have hst:=HS.out
    rw[e1,e2] at hst
    simp only[sameN] at hst
    have HST:=hid hst
    have hne:=fun W=>nd_neqs x y W
    obtain⟨xk,xp,xn⟩:=x
    obtain⟨yk,yp,yn⟩:=y
    dsimp only at c0 c1' c2' d0 d1 d2 hne
    clear hx hy hin hin2 e1 e2 hst HS
    generalize hE:ndEq ⟨xk,xp,xn⟩ ⟨yk,yp,yn⟩=E at HST hne
    clear hE
    cases E with
    | true =>
     have hne:∀ W,(binOp .neq 83 (nd xk xp xn) (nd yk yp yn)).run Tryz.prog W=.ok (.bool false) W:=hne
     go_wp2_with fail
     go_quiet (fail)
     go_wp2_with fail
     go_roundw
     case rel=>exact⟨i+1,q+nq,by omega,by go_num,by simpa using HST.out,rfl⟩
     case measure=>simp[intOf];omega
    | false =>
     have hne:∀ W,(binOp .neq 83 (nd xk xp xn) (nd yk yp yn)).run Tryz.prog W=.ok (.bool true) W:=hne
     go_wp2_with fail
     go_quiet (fail)
     go_wp2_with fail
     go_ret
     exact⟨by have:=HST.out;simp at this;rw[← this];rfl,q+nq,by rw[World.drewN_drewN]⟩
   ·have hge:n≤i:=by omega
    have e1:l1.drop i=[]:=List.drop_eq_nil_of_le (by rw[h1.len];exact hge)
    have e2:l2.drop i=[]:=List.drop_eq_nil_of_le (by rw[h2.len];exact hge)
    have hst:=HS.out
    rw[e1,e2] at hst
    have HST:=hid hst
    clear hst HS e1 e2
    go_wp2_with fail
    go_ret
    exact⟨by rw[← HST.out];rfl,q,rfl⟩
 ·have hb:=sameN_len (a:=l1) (b:=l2) (by rw[h1.len,h2.len];exact hnm)
  rw[hb]
  have h3:((n:Int) == (m:Int))=false:=beq_eq_false_iff_ne.2 (by omega)
  have h4:((n:Int) != (m:Int))=true:=by rw[bne,h3];rfl
  clear hb h1 h2
  go_enter Tryz.func24,Tryz.ntmps24
  go_wp2_with fail
  go_ret
  exact⟨rfl,0,rfl⟩
set_option maxRecDepth 100000 in
set_option maxHeartbeats 1600000 in
theorem rleaf_any (r:Rn) (w:World):Calls Tryz.prog 134 #[rv r.p (r.n:Int)] w (Ans (nd (leafN r).k (leafN r).p (leafN r).n) w):=by
 obtain⟨p,n⟩:=r
 by_cases h:p=-1
 ·subst h
  go_enter Tryz.func134,Tryz.ntmps134
  go_wp2_with fail
  obtain⟨h0,h1,h2⟩:=mark_nd (w.alloc (.cells #[.int .i64 (-1),.int .i64 (n:Int)] 75)) 2 0 (n:Int) 83 (w.heap.size+1) (by simp)
  refine bodyPost_ret (results_nd rfl rfl h0 h1 h2) rfl ⟨by rw[leafN_idle],(bl1 _ _).alloc (by simp) _⟩
 ·go_enter Tryz.func134,Tryz.ntmps134
  go_wp2_with fail
  obtain⟨h0,h1,h2⟩:=mark_nd (w.alloc (.cells #[.int .i64 p,.int .i64 (n:Int)] 75)) 1 p (n:Int) 83 (w.heap.size+1) (by simp)
  refine bodyPost_ret (results_nd rfl rfl h0 h1 h2) rfl ⟨by rw[leafN_win n h],(bl1 _ _).alloc (by simp) _⟩
theorem blk_no {I:Itr} {i p t k:Nat} (hk:k < p) (h:sameAt I (i+k) (i+t*p+k)=false):¬ BlkI I i p t:=fun hb=>by
 have:=hb k hk
 rw[h] at this
 cases this
set_option maxRecDepth 100000 in
set_option maxHeartbeats 4000000 in
theorem rtimes_any (A:Option Addr) (n cap g i p:Nat) (I:Itr) (w:World) (h:RdL w w.heap.size g A n I) (hc:n≤cap) (hn:n≤4096) (hsz:szI I≤1048576) (hp:1≤p) (hr:i+2*p≤n) :
  Calls Tryz.prog 135 #[.slice A n cap,.int .i64 (i:Int),.int .i64 (p:Int)] w (Qui (.int .i64 (timI I i p:Nat)) w):=by
 have HT:Hid (∀ t,1≤t→(∀ m,1≤m→m < t→BlkI I i p m)→(n < i+(t+1)*p∨¬ BlkI I i p t)→timI I i p=t):=hid fun t h1 h2 h3=>tim_blk hp h1 h2 (by rw[h.len];exact h3)
 generalize timI I i p=T at HT ⊢
 go_enter Tryz.func135,Tryz.ntmps135
 go_wp2_with fail
 go_loopw [7,8] (fun s _ wr=>∃ t q:Nat,1≤t∧s=.int .i64 t∧(∀ m,1≤m→m < t→BlkI I i p m)∧i+t*p≤n∧wr=w.drewN q) (fun s _ _=>n+1 - (intOf s).toNat)
 case atStart=>exact⟨1,0,by omega,rfl,fun m h1 h2=>by omega,by omega,rfl⟩
 case round =>
  obtain⟨t,q,ht1,rfl,hblk,htp,rfl⟩:=hrel
  have HBK:=hid hblk
  clear hblk
  have htn:t≤n:=by have:=Nat.le_mul_of_pos_right t hp;omega
  obtain⟨Y,hY⟩:∃ Y,Y=t*p:=⟨_,rfl⟩
  have hX:(t+1)*p=Y+p:=by rw[hY,Nat.add_mul,Nat.one_mul]
  rw[← hY] at htp
  have HX:=hid hX
  have HY:=hid hY
  have hmX:((t:Int)+1)*(p:Int)=((Y+p:Nat):Int):=by rw[← hX];push_cast;rfl
  have hmY:(t:Int)*(p:Int)=(Y:Int):=by rw[hY];push_cast;rfl
  clear hX hY
  obtain⟨X,hXe⟩:∃ X,X=Y+p:=⟨_,rfl⟩
  rw[← hXe] at hmX HX
  have hw0:IntKind.i64.wrap ((t:Int)+1)=(t:Int)+1:=IntWalk.i64_in _ (by omega)
  have hw1:IntKind.i64.wrap (X:Int)=(X:Int):=IntWalk.i64_in _ (by omega)
  have hw2:IntKind.i64.wrap ((i:Int)+(X:Int))=(i:Int)+(X:Int):=IntWalk.i64_in _ (by omega)
  have hw3:IntKind.i64.wrap (Y:Int)=(Y:Int):=IntWalk.i64_in _ (by omega)
  by_cases hroom:i+X≤n
  ·have hri:(i:Int)+(X:Int)≤(n:Int):=by omega
   go_wp2_with fail
   go_loopw [8] (fun s wr=>∃ k q:Nat,k≤p∧s=.int .i64 k∧(∀ c,c < k→sameAt I (i+c) (i+t*p+c)=true)∧wr=w.drewN q) (fun s _=>p - (intOf s).toNat)
   case atStart=>exact⟨0,q,by omega,rfl,fun c hc=>by omega,rfl⟩
   case round =>
    obtain⟨k,q,hk,rfl,hsam,rfl⟩:=hrel
    have HSA:=hid hsam
    clear hsam
    by_cases hkp:k < p
    ·have hkpi:(k:Int) < (p:Int):=by omega
     obtain⟨a,ha⟩:∃ a,a=i+k:=⟨_,rfl⟩
     obtain⟨d,hd⟩:∃ d,d=i+Y:=⟨_,rfl⟩
     obtain⟨b,hb⟩:∃ b,b=d+k:=⟨_,rfl⟩
     have hs1:(i:Int)+(k:Int)=(a:Int):=by omega
     have hs2:(i:Int)+(Y:Int)=(d:Int):=by omega
     have hs3:(d:Int)+(k:Int)=(b:Int):=by omega
     have han:a < n:=by omega
     have hbn:b < n:=by omega
     have hwa:IntKind.i64.wrap (a:Int)=(a:Int):=IntWalk.i64_in _ (by omega)
     have hwd:IntKind.i64.wrap (d:Int)=(d:Int):=IntWalk.i64_in _ (by omega)
     have hwb:IntKind.i64.wrap (b:Int)=(b:Int):=IntWalk.i64_in _ (by omega)
     obtain⟨ad,x,A1,c1,rfl,had,hx,d0,hl1,hr1⟩:=h.at_ han
     obtain⟨ad2,y,A2,c2,e2,had2,hy,d1,hl2,hr2⟩:=h.at_ hbn
     injection e2 with e2
     subst e2
     have hlx:x.length≤1048576:=Nat.le_trans (szI_mem hx) hsz
     have HNS:=hid fun nn=>rnodes_any A1 A2 x.length y.length c1 c2 x y (w.drewN nn) (hr1.below (Below.drewN (Below.refl _ _) nn)) (hr2.below (Below.drewN (Below.refl _ _) nn)) hlx
     have hst:sameAt I (i+k) (i+t*p+k)=sameN x y:=by
      rw[← HY.out,← hd,← hb,← ha]
      exact sameAt_eq hx hy
     generalize sameN x y=v at HNS hst
     have HST:=hid hst
     clear hst hx hy hlx hr1 hr2 had2 ha hd hb
     generalize x.length=m1 at d0 hl1 HNS
     generalize y.length=m2 at d1 hl2 HNS
     cases v with
     | true =>
      go_wp2_with fail
      go_quiet ((go_at_call 24;exact Qui.sum (HNS.out _)))
      go_wp2_with fail
      go_roundw
      case rel=>exact⟨k+1,q+nq,by omega,by go_num,fun c hc=>by
       rcases Nat.lt_or_ge c k with h1 | h1
       ·exact HSA.out c h1
       ·obtain rfl:c=k:=by omega
        exact HST.out,rfl⟩
      case measure=>simp[intOf];omega
     | false =>
      have hT:=HT.out t ht1 HBK.out (.inr (blk_no hkp HST.out))
      subst hT
      go_wp2_with fail
      go_quiet ((go_at_call 24;exact Qui.sum (HNS.out _)))
      go_wp2_with fail
      go_ret
      exact⟨rfl,q+nq,World.drewN_drewN _ _ _⟩
    ·have hkpi:¬ (k:Int) < (p:Int):=by omega
     have HNB:Hid (∀ m,1≤m→m < t+1→BlkI I i p m):=hid fun m h1 h2=>by
      rcases Nat.lt_or_ge m t with h3 | h3
      ·exact HBK.out m h1 h3
      ·obtain rfl:m=t:=by omega
       exact fun c hc=>HSA.out c (by omega)
     go_wp2_with fail
     go_roundw
     case rel=>exact⟨t+1,q,by omega,by go_num,HNB.out,by rw[HX.out];exact hroom,rfl⟩
     case measure=>simp[intOf];omega
  ·have hri:¬ (i:Int)+(X:Int)≤(n:Int):=by omega
   have hT:=HT.out t ht1 HBK.out (.inl (by rw[HX.out];omega))
   subst hT
   go_wp2_with fail
   go_ret
   exact⟨rfl,q,rfl⟩
namespace Tab
theorem szW_more {I:Itr} {i p:Nat} {x:List Nd} (h:I[i+p]? = some x):szW I i (p+1)=szW I i p+x.length:=by
 have a:=szW_pre I i p
 have b:=szW_pre I i (p+1)
 have c:=pre_more h
 rw[show i+(p+1)=i+p+1 by omega] at b
 omega
theorem szW_zero (I:Itr) (i:Nat):szW I i 0=0:=by simp[szW,szI]
theorem szW_le (I:Itr) (i p:Nat):szW I i p≤szI I:=Nat.le_trans (szI_take _ _) (szI_drop _ _)
theorem rowR_go {I:Itr} {i f p:Nat} {s:Bst} (h:i+2*p≤I.length):rowR I i (f+1) p s=rowR I i f (p+1) (updR I i p s):=by simp only[rowR];rw[if_pos h]
theorem rowR_end {I:Itr} {i f p:Nat} {s:Bst} (h:¬ i+2*p≤I.length):rowR I i f p s=s:=by
 cases f with
 | zero=>rfl
 | succ f=>simp only[rowR];rw[if_neg h]
theorem colR_go {I:Itr} {f i:Nat} {s:Bst} (h:i < I.length):colR I (f+1) i s=colR I f (i+1) (rowR I i I.length 1 s):=by simp only[colR];rw[if_pos h]
theorem colR_end {I:Itr} {f i:Nat} {s:Bst} (h:¬ i < I.length):colR I f i s=s:=by
 cases f with
 | zero=>rfl
 | succ f=>simp only[colR];rw[if_neg h]
theorem tim_le {I:Itr} {i p:Nat} (hp:1≤p) (hi:i+p≤I.length):timI I i p≤I.length:=by
 have h1:=(timI_room hp hi).2
 have h2:=Nat.le_mul_of_pos_right (timI I i p) hp
 omega
theorem tim_pos (I:Itr) (i p:Nat):1≤timI I i p:=Nat.le_add_left 1 _
end Tab
set_option maxRecDepth 100000 in
set_option maxHeartbeats 4000000 in
theorem rbest_any (A:Option Addr) (n cap g:Nat) (I:Itr) (w:World) (h:RdL w w.heap.size g A n I) (hc:n≤cap) (hn:n≤4096) (hsz:szI I≤1048576) :
  Calls Tryz.prog 97 #[.slice A n cap] w (Qui (.tuple #[.int .i64 ((bestR I).at_:Nat),.int .i64 ((bestR I).p:Nat),.int .i64 ((bestR I).n:Nat)]) w):=by
 have hlen:=h.len
 generalize hR:bestR I=R
 have HR:=hid hR
 have HL:=hid hlen
 clear hR hlen
 go_enter Tryz.func97,Tryz.ntmps97
 go_wp2_with fail
 go_loopw [5,6,7,8,9,10,11,12,13,16] (fun t5 t6 t7 t8 _ _ _ _ _ t16 wr=>∃(i q:Nat) (s:Bst),i≤n∧t16=.int .i64 i∧t5=.int .i64 (s.at_:Int)∧t6=.int .i64 (s.p:Int)∧t7=.int .i64 (s.n:Int)∧t8=.int .i64 s.most∧colR I (n - i) i s=R∧wr=w.drewN q) (fun _ _ _ _ _ _ _ _ _ t16 _=>n - (intOf t16).toNat)
 case atStart=>exact⟨0,0,⟨0,0,0,0⟩,by omega,rfl,rfl,rfl,rfl,rfl,by rw[← HR.out,← HL.out];rfl,rfl⟩
 case round =>
  obtain⟨i,q,s,hi,rfl,rfl,rfl,rfl,rfl,hcol,rfl⟩:=hrel
  have HC:=hid hcol
  clear hcol
  by_cases hin:i < n
  ·have hini:(i:Int) < (n:Int):=by omega
   have hcg:colR I (n - (i+1)) (i+1) (rowR I i n 1 s)=R:=by
    have e:=colR_go (I:=I) (f:=n - (i+1)) (s:=s) (by rw[HL.out];exact hin)
    rw[HL.out,show n - (i+1)+1=n - i by omega,HC.out] at e
    exact e.symm
   have HCG:=hid hcg
   generalize hS:rowR I i n 1 s=S at HCG
   have HS:=hid hS
   obtain⟨sm,sa,sp,sn⟩:=s
   dsimp only
   clear hcg hS HC
   go_wp2_with fail
   go_loopw [5,6,7,8,10,11,12,13] (fun t5 t6 t7 t8 t10 t11 _ _ wr=>∃(p q f z:Nat) (s:Bst),1≤p∧i+2*p≤n+2∧n < p+f∧t11=.int .i64 p∧z=szW I i (p - 1)∧t10=.int .i64 z∧t5=.int .i64 (s.at_:Int)∧t6=.int .i64 (s.p:Int)∧t7=.int .i64 (s.n:Int)∧t8=.int .i64 s.most∧rowR I i f p s=S∧wr=w.drewN q) (fun _ _ _ _ _ t11 _ _ _=>n+2 - (intOf t11).toNat)
   case atStart=>exact⟨1,q,n,0,⟨sm,sa,sp,sn⟩,by omega,by omega,by omega,rfl,(szW_zero I i).symm,rfl,rfl,rfl,rfl,rfl,HS.out,rfl⟩
   case round =>
    obtain⟨p,q,f,z,s,hp,hip,hpf,rfl,hz,rfl,rfl,rfl,rfl,rfl,hrow,rfl⟩:=hrel
    clear HS
    have HRW:=hid hrow
    have HZ:=hid hz
    have hzl:z≤1048576:=by rw[hz];exact Nat.le_trans (szW_le I i _) hsz
    clear hrow hz
    have hw1:IntKind.i64.wrap (2*(p:Int))=2*(p:Int):=IntWalk.i64_in _ (by omega)
    have hw2:IntKind.i64.wrap ((i:Int)+2*(p:Int))=(i:Int)+2*(p:Int):=IntWalk.i64_in _ (by omega)
    by_cases hc2:i+2*p≤n
    ·have hc2i:(i:Int)+2*(p:Int)≤(n:Int):=by omega
     obtain⟨k,hk⟩:∃ k,k=i+(p - 1):=⟨_,rfl⟩
     have hs1:(i:Int)+(p:Int)=((k+1:Nat):Int):=by omega
     have hs2:((k+1:Nat):Int) - 1=(k:Int):=by omega
     have hkn:k < n:=by omega
     have hwk:IntKind.i64.wrap (k:Int)=(k:Int):=IntWalk.i64_in _ (by omega)
     have hwk1:IntKind.i64.wrap ((k+1:Nat):Int)=((k+1:Nat):Int):=IntWalk.i64_in _ (by omega)
     obtain⟨ad,x,A1,c1,rfl,had,hx,d0,hl1,hr1⟩:=h.at_ hkn
     have hsz1:szW I i p=z+x.length:=by
      have:=szW_more (I:=I) (i:=i) (p:=p - 1) (x:=x) (by rw[← hk];exact hx)
      rw[show p - 1+1=p by omega,← HZ.out] at this
      exact this
     have hzz:=szW_le I i p
     have HTM:=hid fun nn=>rtimes_any (some ad) n cap g i p I (w.drewN nn) (h.drewN nn) hc hn hsz hp hc2
     have htl:=tim_le (I:=I) (i:=i) (p:=p) hp (by rw[HL.out];omega)
     have htp:=tim_pos I i p
     rw[HL.out] at htl
     have hsv:2≤timI I i p→savA I i p=((szW I i p*(timI I i p - 1):Nat):Int) - 1 - (if 1 < p then 1 else 0):=fun h2=>savA_at ⟨hp,by rw[HL.out];exact hc2,h2⟩
     have hru:rowR I i (f - 1) (p+1) (updR I i p s)=S:=by
      rw[← HRW.out]
      have e:=rowR_go (I:=I) (i:=i) (f:=f - 1) (p:=p) (s:=s) (by rw[HL.out];exact hc2)
      rw[show f - 1+1=f by omega] at e
      exact e.symm
     unfold updR at hru
     generalize hm1:x.length=m1 at d0 hl1 hsz1
     rw[hsz1] at hzz hsv
     have HSZ:=hid hsz1
     generalize timI I i p=T at HTM htl htp hsv hru
     obtain⟨t,rfl⟩:∃ t,T=t+1:=⟨T - 1,by omega⟩
     obtain⟨Z,hZ⟩:∃ Z,Z=z+m1:=⟨_,rfl⟩
     rw[← hZ] at hzz hsv HSZ
     obtain⟨X,hX⟩:∃ X,X=Z*t:=⟨_,rfl⟩
     rw[Nat.add_sub_cancel,← hX] at hsv
     have hXb:X≤1048576*4096:=by rw[hX];exact Nat.mul_le_mul (by omega) (by omega)
     have hsm:(z:Int)+(m1:Int)=(Z:Int):=by omega
     have hts:((t+1:Nat):Int) - 1=(t:Int):=by omega
     have hpr:(Z:Int)*(t:Int)=(X:Int):=by rw[hX];push_cast;rfl
     have hwZ:IntKind.i64.wrap (Z:Int)=(Z:Int):=IntWalk.i64_in _ (by omega)
     have hwX:IntKind.i64.wrap (X:Int)=(X:Int):=IntWalk.i64_in _ (by omega)
     have hwX1:IntKind.i64.wrap ((X:Int) - 1)=(X:Int) - 1:=IntWalk.i64_in _ (by omega)
     have hwX2:IntKind.i64.wrap ((X:Int) - 1 - 1)=(X:Int) - 1 - 1:=IntWalk.i64_in _ (by omega)
     have HSV:=hid hsv
     have HRU:=hid hru
     have HZS:Hid (Z=szW I i (p+1 - 1)):=hid (by rw[Nat.add_sub_cancel];exact HSZ.out.symm)
     clear hsv hru hx had hr1 hm1 hX hZ hk
     by_cases hp1:1 < p
     ·skip
      have hpi:(1:Int) < (p:Int):=by omega
      by_cases ht:1≤t
      ·have hti:(1:Int) < ((t+1:Nat):Int):=by omega
       have hti2:(1:Int) < (t:Int)+1:=by omega
       have hti3:(0:Int) < (t:Int):=by omega
       have hti4:0 < t:=by omega
       have hsa:savA I i p=(X:Int) - 1 - 1:=by rw[HSV.out (by omega),if_pos hp1]
       by_cases hb:s.most < (X:Int) - 1 - 1
       ·have HRN:Hid (rowR I i (f - 1) (p+1) ⟨(X:Int) - 1 - 1,i,p,t+1⟩=S):=hid (by rw[← HRU.out,hsa,if_pos ⟨by omega,hb⟩])
        clear hsa hp1
        go_wp2_with fail
        refine(HTM.out q).mono ?_
        rintro e wt ⟨rfl,q',rfl⟩
        go_wp2_with fail
        go_roundw
        case rel=>exact⟨p+1,q+q',f - 1,Z,⟨(X:Int) - 1 - 1,i,p,t+1⟩,by omega,by omega,by omega,by go_num,HZS.out,by rfl,rfl,rfl,by rfl,rfl,HRN.out,rfl⟩
        case measure=>simp[intOf];omega
       ·have HRN:Hid (rowR I i (f - 1) (p+1) s=S):=hid (by rw[← HRU.out,hsa,if_neg (fun h=>hb h.2)])
        clear hsa hp1
        go_wp2_with fail
        refine(HTM.out q).mono ?_
        rintro e wt ⟨rfl,q',rfl⟩
        go_wp2_with fail
        go_roundw
        case rel=>exact⟨p+1,q+q',f - 1,Z,s,by omega,by omega,by omega,by go_num,HZS.out,by rfl,rfl,rfl,by rfl,rfl,HRN.out,rfl⟩
        case measure=>simp[intOf];omega
      ·obtain rfl:t=0:=by omega
       have HRN:Hid (rowR I i (f - 1) (p+1) s=S):=hid (by rw[← HRU.out,if_neg (fun h=>by omega)])
       clear hp1
       go_wp2_with fail
       refine(HTM.out q).mono ?_
       rintro e wt ⟨rfl,q',rfl⟩
       go_wp2_with fail
       go_roundw
       case rel=>exact⟨p+1,q+q',f - 1,Z,s,by omega,by omega,by omega,by go_num,HZS.out,by rfl,rfl,rfl,by rfl,rfl,HRN.out,rfl⟩
       case measure=>simp[intOf];omega
     ·skip
      have hpi:¬ (1:Int) < (p:Int):=by omega
      by_cases ht:1≤t
      ·have hti:(1:Int) < ((t+1:Nat):Int):=by omega
       have hti2:(1:Int) < (t:Int)+1:=by omega
       have hti3:(0:Int) < (t:Int):=by omega
       have hti4:0 < t:=by omega
       have hsa:savA I i p=(X:Int) - 1:=by rw[HSV.out (by omega),if_neg hp1,Int.sub_zero]
       by_cases hb:s.most < (X:Int) - 1
       ·have HRN:Hid (rowR I i (f - 1) (p+1) ⟨(X:Int) - 1,i,p,t+1⟩=S):=hid (by rw[← HRU.out,hsa,if_pos ⟨by omega,hb⟩])
        clear hsa hp1
        go_wp2_with fail
        refine(HTM.out q).mono ?_
        rintro e wt ⟨rfl,q',rfl⟩
        go_wp2_with fail
        go_roundw
        case rel=>exact⟨p+1,q+q',f - 1,Z,⟨(X:Int) - 1,i,p,t+1⟩,by omega,by omega,by omega,by go_num,HZS.out,by rfl,rfl,rfl,by rfl,rfl,HRN.out,rfl⟩
        case measure=>simp[intOf];omega
       ·have HRN:Hid (rowR I i (f - 1) (p+1) s=S):=hid (by rw[← HRU.out,hsa,if_neg (fun h=>hb h.2)])
        clear hsa hp1
        go_wp2_with fail
        refine(HTM.out q).mono ?_
        rintro e wt ⟨rfl,q',rfl⟩
        go_wp2_with fail
        go_roundw
        case rel=>exact⟨p+1,q+q',f - 1,Z,s,by omega,by omega,by omega,by go_num,HZS.out,by rfl,rfl,rfl,by rfl,rfl,HRN.out,rfl⟩
        case measure=>simp[intOf];omega
      ·obtain rfl:t=0:=by omega
       have HRN:Hid (rowR I i (f - 1) (p+1) s=S):=hid (by rw[← HRU.out,if_neg (fun h=>by omega)])
       clear hp1
       go_wp2_with fail
       refine(HTM.out q).mono ?_
       rintro e wt ⟨rfl,q',rfl⟩
       go_wp2_with fail
       go_roundw
       case rel=>exact⟨p+1,q+q',f - 1,Z,s,by omega,by omega,by omega,by go_num,HZS.out,by rfl,rfl,rfl,by rfl,rfl,HRN.out,rfl⟩
       case measure=>simp[intOf];omega
    ·have hc2i:¬ (i:Int)+2*(p:Int)≤(n:Int):=by omega
     have e:s=S:=by
      rw[← HRW.out]
      exact(rowR_end (by rw[HL.out];exact hc2)).symm
     subst e
     go_wp2_with fail
     go_roundw
     case rel=>exact⟨i+1,q,s,by omega,by go_num,rfl,rfl,rfl,rfl,HCG.out,rfl⟩
     case measure=>simp[intOf];omega
  ·have hini:¬ (i:Int) < (n:Int):=by omega
   have e:s=R:=by rw[← HC.out];exact(colR_end (by rw[HL.out];exact hin)).symm
   subst e
   go_wp2_with fail
   go_ret3
   exact⟨rfl,q,rfl⟩
def CelI (w:World) (I:Itr) (V:List Value):Prop:=V.length=I.length∧∀(i:Nat) (x:List Nd) (v:Value),I[i]? = some x→V[i]? = some v→1≤x.length∧∃ A c,v=.slice A x.length c∧x.length≤c∧RdN w w.heap.size A x.length x
theorem CelI.on {w w':World} {I:Itr} {V:List Value} (h:CelI w I V) (hb:Below w.heap.size w w'):CelI w' I V:=⟨h.1,fun i x v hx hv=>by
 obtain⟨h1,A,c,e,hc,hr⟩:=h.2 i x v hx hv
 exact⟨h1,A,c,e,hc,hr.on hb⟩⟩
theorem CelI.take {w:World} {I:Itr} {V:List Value} (h:CelI w I V) (k:Nat):CelI w (I.take k) (V.take k):=by
 refine⟨by simp[h.1],fun i x v hx hv=>?_⟩
 rw[List.getElem?_take] at hx hv
 split at hx
 ·rename_i hi
  rw[if_pos hi] at hv
  exact h.2 i x v hx hv
 ·cases hx
theorem CelI.drop {w:World} {I:Itr} {V:List Value} (h:CelI w I V) (k:Nat):CelI w (I.drop k) (V.drop k):=by
 refine⟨by simp[h.1],fun i x v hx hv=>?_⟩
 rw[List.getElem?_drop] at hx hv
 exact h.2 _ x v hx hv
theorem CelI.append {w:World} {I J:Itr} {V U:List Value} (h:CelI w I V) (k:CelI w J U):CelI w (I++J) (V++U):=by
 refine⟨by simp[h.1,k.1],fun i x v hx hv=>?_⟩
 by_cases hi:i < I.length
 ·rw[List.getElem?_append_left hi] at hx
  rw[List.getElem?_append_left (by rw[h.1];exact hi)] at hv
  exact h.2 i x v hx hv
 ·rw[List.getElem?_append_right (by omega)] at hx
  rw[List.getElem?_append_right (by rw[h.1];omega),h.1] at hv
  exact k.2 _ x v hx hv
theorem CelI.single {w:World} {x:List Nd} {A:Option Addr} {c:Nat} (h1:1≤x.length) (hc:x.length≤c) (hr:RdN w w.heap.size A x.length x):CelI w [x] [.slice A x.length c]:=by
 refine⟨rfl,fun i y u hy hu=>?_⟩
 match i with
 | 0=>simp at hy hu;subst hy;subst hu;exact⟨h1,A,c,rfl,hc,hr⟩
 | i+1=>simp at hy
theorem CelI.nil (w:World):CelI w [] []:=⟨rfl,fun i x v hx _=>by simp at hx⟩
theorem CelI.one {w:World} {I:Itr} {V:List Value} (h:CelI w I V):∀ v∈V,v.oneCell'=true:=by
 intro v hv
 obtain⟨i,hi,rfl⟩:=List.mem_iff_getElem.1 hv
 have h1:I[i]? = some (I[i]'(by rw[← h.1];exact hi)):=List.getElem?_eq_getElem _
 obtain⟨_,A,c,e,_⟩:=h.2 i _ _ h1 (List.getElem?_eq_getElem hi)
 rw[e]
 rfl
theorem CelI.ne {w:World} {I:Itr} {V:List Value} (h:CelI w I V):∀ x∈I,1≤x.length:=by
 intro x hx
 obtain⟨i,hi,rfl⟩:=List.mem_iff_getElem.1 hx
 have h1:V[i]? = some (V[i]'(by rw[h.1];exact hi)):=List.getElem?_eq_getElem _
 exact(h.2 i _ _ (List.getElem?_eq_getElem hi) h1).1
theorem CelI.cells {w:World} {I:Itr} {V:List Value} (h:CelI w I V):Cells w w.heap.size w.heap.size I V:=⟨h.1,fun i x v hx hv=>by
 obtain⟨h1,A,c,e,hc,hr⟩:=h.2 i x v hx hv
 refine⟨A,c,e,hc,hr,fun ad ha=>?_⟩
 obtain⟨ad',e',hb,_⟩:=hr.rd (by rw[ns_length];omega)
 rw[ha] at e'
 injection e' with e'
 subst e'
 omega⟩
structure RdItr (w:World) (A:Option Addr) (n:Nat) (I:Itr):Prop where
 len:I.length=n
 ex:∃ V,RdV w w.heap.size A V∧CelI w I V
theorem RdItr.rdl {w:World} {A:Option Addr} {n:Nat} {I:Itr} (h:RdItr w A n I):RdL w w.heap.size w.heap.size A n I:=by
 obtain⟨V,h1,h2⟩:=h.ex
 exact⟨h.len,V,h1,h2.cells⟩
theorem RdItr.on {w w':World} {A:Option Addr} {n:Nat} {I:Itr} (h:RdItr w A n I) (hb:Below w.heap.size w w'):RdItr w' A n I:=by
 obtain⟨V,h1,h2⟩:=h.ex
 exact⟨h.len,V,(h1.below hb).more hb.size,h2.on hb⟩
theorem RdItr.ne {w:World} {A:Option Addr} {n:Nat} {I:Itr} (h:RdItr w A n I):∀ x∈I,1≤x.length:=by
 obtain⟨V,h1,h2⟩:=h.ex
 exact h2.ne
theorem joinI_pos {I:Itr} (hne:∀ x∈I,1≤x.length):1≤(joinI I).length:=by
 by_cases h:I.length=1
 ·cases I with
  | nil=>simp at h
  | cons x J =>
   have:J=[]:=List.eq_nil_of_length_eq_zero (by simp only[List.length_cons] at h;omega)
   subst this
   rw[joinI_one]
   exact hne x (by simp)
 ·rw[joinI_more h,List.length_cons]
  omega
def NodO (l:List Nd) (w:World) (e:Ending) (w':World):Prop:=∃ A c,e=.returned (.slice A l.length c)∧OwnN w' w.heap.size A l.length c l∧Below w.heap.size w w'
theorem flat_moreI {I:Itr} {i:Nat} {x:List Nd} (h:I[i]? = some x):(I.take (i+1)).flatten=(I.take i).flatten++x:=by
 obtain⟨hi,e⟩:=List.getElem?_eq_some_iff.1 h
 rw[List.take_succ_eq_append_getElem hi,List.flatten_append,e]
 simp
set_option maxRecDepth 100000 in
set_option maxHeartbeats 4000000 in
theorem rseq_any (A:Option Addr) (n cap g:Nat) (I:Itr) (w:World) (h:RdL w w.heap.size g A n I) (hc:n≤cap) (h1:1≤n) (hn:n≤4096) (hsz:szI I≤1048576) :
  Calls Tryz.prog 98 #[.slice A n cap] w (NodO (joinI I) w):=by
 by_cases h1':n=1
 ·subst h1'
  obtain⟨ad,x,A',c',rfl,had,hx,c0,hl,hr⟩:=h.at_ (show 0 < 1 by omega)
  have hI:I=[x]:=by
   cases I with
   | nil=>simp at hx
   | cons y J =>
    have hl:=h.len
    simp only[List.length_cons] at hl
    have:J=[]:=List.eq_nil_of_length_eq_zero (by omega)
    subst this
    simp at hx
    rw[hx]
  have hsx:=szI_mem hx
  subst hI
  have hz:ad.add 0=ad:=by simp[Addr.add]
  rw[hz] at c0
  have hbe:=bl1 w (.cells #[] 83)
  have c0':(w.alloc (.cells #[] 83)).cell? ad=some (.slice A' x.length c'):=(hbe.cell had).trans c0
  have hr0:=hr.on hbe
  have hown0:OwnV 83 3 (w.alloc (.cells #[] 83)) w.heap.size (some ⟨w.heap.size,0,none⟩) 0 0 []:=ownV_lit w _ 3 w.heap.size #[] 0 rfl (Nat.le_refl _) (by unfold maxLen;omega)
  have hrd:=hr0.rd
  have hle:w.heap.size≤(w.alloc (.cells #[] 83)).heap.size:=hbe.size
  have HBE:=hid hbe
  have HBD:=hid hr0.bd
  obtain⟨m,hm⟩:∃ m,m=x.length:=⟨_,rfl⟩
  rw[← hm] at c0' hl
  have HM:=hid hm
  have hml:m≤1048576:=by omega
  clear hx c0 hr h hsz hr0 hbe hsx hm had
  go_enter Tryz.func98,Tryz.ntmps98
  go_wp2_with (at_builtin;go_loud (refine wpList_appV elN rfl (.tmp 9) (.tmp 12) rfl rfl w.heap.size (some ⟨w.heap.size,0,none⟩) 0 0 [] rfl hown0 A' m c' (ns x) _ rfl hrd (by rw[ns_length,HM.out]) (ns_one _) (by omega) (by unfold maxLen;omega) hle m (Nat.zero_add _) (ns x) (List.nil_append _) ?_;intro A3 c3 w3 hw3 hb3 _))
  go_ret
  refine⟨A3,c3,by rw[show (joinI [x]).length=m from HM.out.symm];rfl,?_,HBE.out.trans hb3⟩
  rw[show joinI [x]=x from rfl,← HM.out]
  exact⟨HM.out.symm,hw3,HBD.out⟩
 ·rw[joinI_more (by rw[h.len];exact h1'),h.len]
  have hne:((n:Int) == 1)=false:=beq_eq_false_iff_ne.2 (by omega)
  have hbl:=bl1 w (.cells #[.int .i64 3,.int .i64 0,.int .i64 (n:Int)] 83)
  have hin:NdIn ⟨3,0,(n:Int)⟩:=ndIn_mk (by omega) (by omega) (by omega)
  have ql:=OwnN.lit w w.heap.size #[.int .i64 3,.int .i64 0,.int .i64 (n:Int)] [⟨3,0,(n:Int)⟩] 1 rfl rfl (Nat.le_refl _) (by omega) (by intro x hx;simp at hx;subst hx;exact hin)
  have HH:=hid h
  have HL:=hid h.len
  have HSZ:=hid hsz
  clear h hsz
  go_enter Tryz.func98,Tryz.ntmps98
  go_upto_region 4 with fail
  generalize w.alloc (.cells #[.int .i64 3,.int .i64 0,.int .i64 (n:Int)] 83)=W at hbl ql ⊢
  have HBL:=hid hbl
  have HQL:=hid ql
  clear hbl ql hin
  go_wp2_with fail
  go_loopw [3,5,20] (fun t3 _ t20 wr=>∃(i m c:Nat) (B:Option Addr),i≤n∧t20=.int .i64 i∧t3=.slice B m c∧m=1+szI (I.take i)∧OwnN wr w.heap.size B m c (⟨3,0,(n:Int)⟩::(I.take i).flatten)∧Below w.heap.size w wr) (fun _ _ t20 _=>n - (intOf t20).toNat)
  case atStart=>exact⟨0,1,1,some ⟨w.heap.size,0,none⟩,by omega,rfl,by first | rfl | (congr 1),by simp[szI],by simpa using HQL.out,HBL.out⟩
  case round =>
   obtain⟨i,m,c,B,hi,rfl,rfl,hm,hown,hb⟩:=hrel
   by_cases hin:i < n
   ·have hini:(i:Int) < (n:Int):=by omega
    obtain⟨ad,x,A',c',rfl,had,hx,c0,hl,hr⟩:=(HH.out.on hb).at_ hin
    have hmore:=szI_more hx
    have hall:szI (I.take (i+1))≤1048576:=Nat.le_trans (szI_take I (i+1)) HSZ.out
    have hfl:=flat_moreI hx
    have hrd:=hr.rd
    have HBD:=hid hr.bd
    have HOB:=hid hown.bd
    have HOL:=hid hown.len
    have hov:=hown.own
    obtain⟨k,hk⟩:∃ k,k=x.length:=⟨_,rfl⟩
    rw[← hk] at c0 hl hmore
    have HK:=hid hk
    have HFL:=hid hfl
    have HM2:Hid (m+k=1+szI (I.take (i+1))):=hid (by omega)
    have hmk:m+k≤1048577:=by omega
    have HB:=hid hb
    have hbs:=hb.size
    clear hx hm hmore hall hfl hr hown hk had hb
    go_wp2_with (at_builtin;go_loud (refine wpList_appV elN rfl (.tmp 24) (.tmp 25) rfl rfl w.heap.size B m c _ rfl hov A' k c' (ns x) _ rfl hrd (by rw[ns_length,HK.out]) (ns_one _) (by omega) (by unfold maxLen;omega) hbs (m+k) rfl (ns ((⟨3,0,(n:Int)⟩::(I.take i).flatten)++x)) (ns_append _ _).symm ?_;intro A3 c3 w3 hw3 hb3 _))
    go_roundw
    case rel=>exact⟨i+1,m+k,c3,A3,by omega,by go_num,rfl,HM2.out,⟨by rw[HFL.out,← List.cons_append,List.length_append,HOL.out,HK.out],by rw[HFL.out,← List.cons_append];exact hw3,fun y hy=>by
     rw[HFL.out,← List.cons_append] at hy
     rcases List.mem_append.1 hy with hy | hy
     ·exact HOB.out y hy
     ·exact HBD.out y hy⟩,HB.out.trans hb3⟩
    case measure=>simp[intOf];omega
   ·have hini:¬ (i:Int) < (n:Int):=by omega
    have e:I.take i=I:=List.take_of_length_le (by rw[HL.out];omega)
    rw[e] at hown hm
    have HO:=hid hown
    have HB:=hid hb
    have HMM:=hid hm
    clear hown hb hm e
    go_wp2_with fail
    go_ret
    have el:m=(⟨3,0,(n:Int)⟩::I.flatten:List Nd).length:=HO.out.len.symm
    exact⟨B,c,by rw[← el];rfl,by rw[← el];exact HO.out,HB.out⟩
def ProcsAt (w:World) (B:Nat) (A:Option Addr) (n:Nat):Prop:=∀ i,i < n→∃ ad e p,A=some ad∧ad.block < B∧w.cell? (ad.add (i*2))=some (.int .i64 e)∧w.cell? ⟨(ad.add (i*2)).block,(ad.add (i*2)).off+1,none⟩=some (.int .i64 p)
theorem ProcsAt.on {w w':World} {A:Option Addr} {n:Nat} (h:ProcsAt w w.heap.size A n) (hb:Below w.heap.size w w'):ProcsAt w' w'.heap.size A n:=fun i hi=>by
 obtain⟨ad,e,p,hA,hB,h1,h2⟩:=h i hi
 refine⟨ad,e,p,hA,Nat.lt_of_lt_of_le hB hb.size,?_,?_⟩
 ·rw[hb.cell (by rw[add_block];exact hB)];exact h1
 ·rw[hb.cell (by show (ad.add (i*2)).block < _;rw[add_block];exact hB)];exact h2
set_option maxRecDepth 100000 in
set_option maxHeartbeats 4000000 in
theorem name_any (s:ByteArray) (w:World) (hs:s.size≤1048576):Calls Tryz.prog 130 #[.string s] w (SomB w):=by
 go_enter Tryz.func130,Tryz.ntmps130
 go_wp2_with fail
 go_loopw [3,4] (fun q _ wr=>∃ i:Nat,i≤s.size∧q=.int .i64 i∧Below w.heap.size w wr) (fun q _ _=>s.size - (intOf q).toNat)
 case atStart=>exact⟨0,by omega,rfl,Below.refl _ _⟩
 case round =>
  obtain⟨i,hi,rfl,hb⟩:=hrel
  by_cases hlt:i < s.size
  ·go_wp2_with fail
   all_goals
    first
    |(go_ret;exact⟨_,rfl,hb⟩)
    |(go_roundw
      case rel=>exact⟨i+1,by omega,by go_num,hb⟩
      case measure=>simp[intOf];omega)
  ·have hge:s.size≤i:=by omega
   go_wp2_with fail
   all_goals
    go_ret
    exact⟨_,rfl,hb⟩
set_option maxRecDepth 100000 in
set_option maxHeartbeats 4000000 in
theorem partRight_any (x:PtV) (w:World) (h:ProcsAt w w.heap.size x.pa x.pn) (hn:x.pn≤1048576):Calls Tryz.prog 131 #[pv x] w (SomB w):=by
 obtain⟨nm,bu,pe,sc,st,pa,pn,pc,h0,h1,h2,h3,h4⟩:=x
 dsimp only at h hn
 go_enter Tryz.func131,Tryz.ntmps131
 by_cases hp1:pn < 1
 ·have hp1':(pn:Int) < 1:=by omega
  go_wp2_with fail
  go_ret
  exact⟨_,rfl,bl1 _ _⟩
 ·by_cases hp3:3 < pn
  ·have hp3':(3:Int) < (pn:Int):=by omega
   have hp1':¬ (pn:Int) < 1:=by omega
   go_wp2_with fail
   go_ret
   exact⟨_,rfl,bl1 _ _⟩
  ·have hp3':¬ (3:Int) < (pn:Int):=by omega
   have hp1':¬ (pn:Int) < 1:=by omega
   go_wp2_with fail
   have hb0:=bl1 w (.cells #[.string nm,.int .i64 bu,.int .i64 pe,.bool sc,.bool st,.slice pa pn pc,.int .i64 h0,.int .i64 h1,.int .i64 h2,.int .i64 h3,.int .i64 h4] 68)
   have n1:(w.alloc (.cells #[.string nm,.int .i64 bu,.int .i64 pe,.bool sc,.bool st,.slice pa pn pc,.int .i64 h0,.int .i64 h1,.int .i64 h2,.int .i64 h3,.int .i64 h4] 68)).cell? ⟨w.heap.size,1,none⟩=some (.int .i64 bu):=World.cell?_alloc_mark _ _ _ _ _
   have n2:(w.alloc (.cells #[.string nm,.int .i64 bu,.int .i64 pe,.bool sc,.bool st,.slice pa pn pc,.int .i64 h0,.int .i64 h1,.int .i64 h2,.int .i64 h3,.int .i64 h4] 68)).cell? ⟨w.heap.size,2,none⟩=some (.int .i64 pe):=World.cell?_alloc_mark _ _ _ _ _
   have n6:(w.alloc (.cells #[.string nm,.int .i64 bu,.int .i64 pe,.bool sc,.bool st,.slice pa pn pc,.int .i64 h0,.int .i64 h1,.int .i64 h2,.int .i64 h3,.int .i64 h4] 68)).cell? ⟨w.heap.size,6,none⟩=some (.int .i64 h0):=World.cell?_alloc_mark _ _ _ _ _
   have n7:(w.alloc (.cells #[.string nm,.int .i64 bu,.int .i64 pe,.bool sc,.bool st,.slice pa pn pc,.int .i64 h0,.int .i64 h1,.int .i64 h2,.int .i64 h3,.int .i64 h4] 68)).cell? ⟨w.heap.size,7,none⟩=some (.int .i64 h1):=World.cell?_alloc_mark _ _ _ _ _
   have n8:(w.alloc (.cells #[.string nm,.int .i64 bu,.int .i64 pe,.bool sc,.bool st,.slice pa pn pc,.int .i64 h0,.int .i64 h1,.int .i64 h2,.int .i64 h3,.int .i64 h4] 68)).cell? ⟨w.heap.size,8,none⟩=some (.int .i64 h2):=World.cell?_alloc_mark _ _ _ _ _
   have n9:(w.alloc (.cells #[.string nm,.int .i64 bu,.int .i64 pe,.bool sc,.bool st,.slice pa pn pc,.int .i64 h0,.int .i64 h1,.int .i64 h2,.int .i64 h3,.int .i64 h4] 68)).cell? ⟨w.heap.size,9,none⟩=some (.int .i64 h3):=World.cell?_alloc_mark _ _ _ _ _
   have n10:(w.alloc (.cells #[.string nm,.int .i64 bu,.int .i64 pe,.bool sc,.bool st,.slice pa pn pc,.int .i64 h0,.int .i64 h1,.int .i64 h2,.int .i64 h3,.int .i64 h4] 68)).cell? ⟨w.heap.size,10,none⟩=some (.int .i64 h4):=World.cell?_alloc_mark _ _ _ _ _
   have hgs:w.heap.size < (w.alloc (.cells #[.string nm,.int .i64 bu,.int .i64 pe,.bool sc,.bool st,.slice pa pn pc,.int .i64 h0,.int .i64 h1,.int .i64 h2,.int .i64 h3,.int .i64 h4] 68)).heap.size:=by simp
   have hw1:=h.on hb0
   generalize w.alloc (.cells #[.string nm,.int .i64 bu,.int .i64 pe,.bool sc,.bool st,.slice pa pn pc,.int .i64 h0,.int .i64 h1,.int .i64 h2,.int .i64 h3,.int .i64 h4] 68)=W at n1 n2 n6 n7 n8 n9 n10 hb0 hgs hw1 ⊢
   obtain⟨g,hg⟩:∃ g,g=w.heap.size:=⟨_,rfl⟩
   rw[← hg] at n1 n2 n6 n7 n8 n9 n10 hgs ⊢
   have HG:=hid hg
   clear hg
   have HN:=hid fun W' (hb:Below W.heap.size W W') (o:Nat) v (hv:W.cell? ⟨g,o,none⟩=some v)=>(hb.cell (p:=⟨g,o,none⟩) hgs).trans hv
   have N1:=hid n1
   have N2:=hid n2
   have N6:=hid n6
   have N7:=hid n7
   have N8:=hid n8
   have N9:=hid n9
   have N10:=hid n10
   clear n1 n2 n6 n7 n8 n9 n10
   go_loopw [4,20] (fun _ s wr=>∃ i:Nat,i≤pn∧s=.int .i64 i∧Below W.heap.size W wr) (fun _ s _=>pn - (intOf s).toNat)
   case atStart=>exact⟨0,by omega,rfl,Below.refl _ _⟩
   case round =>
    obtain⟨i,hi,rfl,hb⟩:=hrel
    by_cases hlt:i < pn
    ·obtain⟨ad,e,p,rfl,had,c0,c1⟩:=hw1.on hb i hlt
     have HB:=hid (hb.trans ((bl1 wr (.cells #[.int .i64 e,.int .i64 p] 70)).mono hb.size))
     go_wp2_with fail
     all_goals
      first
      |(go_ret;exact⟨_,rfl,hb0.trans (HB.out.mono hb0.size)⟩)
      |(go_roundw
        case rel=>exact⟨i+1,by omega,by go_num,HB.out⟩
        case measure=>simp[intOf];omega)
    ·have hge:pn≤i:=by omega
     have n1:=HN.out wr hb 1 _ N1.out
     have n2:=HN.out wr hb 2 _ N2.out
     have n6:=HN.out wr hb 6 _ N6.out
     have n7:=HN.out wr hb 7 _ N7.out
     have n8:=HN.out wr hb 8 _ N8.out
     have n9:=HN.out wr hb 9 _ N9.out
     have n10:=HN.out wr hb 10 _ N10.out
     go_wp2_with fail
     clear n6 n7 n8 n9 n10
     go_loopw [6,45] (fun _ s wx=>∃ j:Nat,j≤5∧s=.int .i64 j∧Below W.heap.size W wx) (fun _ s _=>5 - (intOf s).toNat)
     case atStart=>exact⟨0,by omega,rfl,hb⟩
     case round =>
      obtain⟨j,hj,rfl,hb⟩:=hrel
      by_cases hj5:j < 5
      ·obtain⟨z,hz⟩:∃ z,∀ W,(Instr.index 66 (.agg #[Value.int .i64 h0,.int .i64 h1,.int .i64 h2,.int .i64 h3,.int .i64 h4]) (.int .i64 (j:Int))).run Tryz.prog W=.ok (.int .i64 z) W:=by
        rcases(by omega:j=0∨j=1∨j=2∨j=3∨j=4) with rfl | rfl | rfl | rfl | rfl
        ·exact⟨h0,fun W=>by simp[Instr.index,go_sem]⟩
        ·exact⟨h1,fun W=>by simp[Instr.index,go_sem]⟩
        ·exact⟨h2,fun W=>by simp[Instr.index,go_sem]⟩
        ·exact⟨h3,fun W=>by simp[Instr.index,go_sem]⟩
        ·exact⟨h4,fun W=>by simp[Instr.index,go_sem]⟩
       have hj5':(j:Int) < 5:=by omega
       go_wp2_with fail
       all_goals
        first
        |(go_ret;exact⟨_,rfl,hb0.trans (hb.mono hb0.size)⟩)
        |(go_roundw
          case rel=>exact⟨j+1,by omega,by go_num,hb⟩
          case measure=>simp[intOf];omega)
      ·have hj5':¬ (j:Int) < 5:=by omega
       have n1:=HN.out wr hb 1 _ N1.out
       have n2:=HN.out wr hb 2 _ N2.out
       go_wp2_with fail
       all_goals
        go_ret
        exact⟨_,rfl,hb0.trans (hb.mono hb0.size)⟩
theorem rt_cases (n D T:Nat):(rt n D T=0∧n≤128∧D≤16∧T≤4096)∨¬ rt n D T=0:=by
 unfold rt
 by_cases h1:128 < n
 ·rw[if_pos h1];exact .inr (by omega)
 ·by_cases h2:16 < D
  ·rw[if_neg h1,if_pos h2];exact .inr (by omega)
  ·by_cases h3:4096 < T
   ·rw[if_neg h1,if_neg h2,if_pos h3];exact .inr (by omega)
   ·rw[if_neg h1,if_neg h2,if_neg h3];exact .inl ⟨rfl,by omega,by omega,by omega⟩
theorem Cur.belowB {w w':World} {b B:Nat} {A:Option Addr} {n cap:Nat} {l:List Nd} {td:List Rn} {tk gn:Nat} (h:Cur w b A n cap l td tk gn) (hb:Below B w w') (hlt:b < B):Cur w' b A n cap l td tk gn:=by
 obtain⟨c,st,p,hB,r⟩:=h.ex
 exact⟨⟨⟨h.tb.rd.len,h.tb.rd.rd.keep fun q hq=>World.cell?_of_block (hb.block q.block (by omega)),h.tb.rd.bd⟩,h.tb.cap,h.tb.hn⟩,⟨c,st,p,hB.keep (hb.block b hlt),r⟩,h.low,h.low0,h.sum,h.pos⟩
set_option maxRecDepth 100000 in
set_option maxHeartbeats 4000000 in
theorem pleaves_any (A:Option Addr) (n cap:Nat) (x:Nd) (k:F) (w:World) (h:RdN w w.heap.size A n (x::k.flat)) (hc:n≤cap) (hok:(F.cons x k .nil).ok) (hn:n≤128) (hd:k.dep+1≤16) (hl:F.tick x k.len≤4096) :
  Calls Tryz.prog 72 #[.slice A n cap] w (MadeR (one x k.lvs) w):=by
 have hN:=new_right A n cap x k w h hc hok hn hd hl
 have hpos:∀ r∈one x k.lvs,1≤r.n:=fun r hr=>lvs_pos hok r (by simpa [F.lvs] using hr)
 have hlen:=length_le_ticks hpos
 rw[one_ticks,lvs_ticks] at hlen
 unfold Born at hN
 generalize x::k.flat=l at hN h
 generalize one x k.lvs=L at hN hlen ⊢
 have hLen:L.length≤4096:=by omega
 have HN:=hid hN
 clear hN hpos hlen hok h
 go_enter Tryz.func72,Tryz.ntmps72
 go_wp2_with fail
 refine HN.out.mono ?_
 rintro e w1 ⟨b,A2,n2,c2,rfl,hC,hbb,hb1⟩
 have HC:=hid hC
 have hblt:=hC.lt
 clear hC HN
 go_wp2_with fail
 go_loopw [3] (fun q wr=>∃(i c' gn:Nat) (A':Option Addr),i≤L.length∧q=.slice A' i c'∧OwnV 75 2 wr w1.heap.size A' i c' (rs (L.take i))∧Cur wr b A2 n2 c2 l (L.drop i) 0 gn∧Below w.heap.size w wr∧w1.heap.size≤wr.heap.size) (fun q _=>L.length - lenOf q)
 case atStart=>exact⟨0,0,0,none,by omega,rfl,by simpa [rs] using OwnV.nil _ _ _ _,by simpa using HC.out,hb1,Nat.le_refl _⟩
 case round =>
  obtain⟨i,c',gn,A',hi,rfl,how,hC,hb,hsz⟩:=hrel
  have HOW:=hid how
  have HCC:=hid hC
  clear how hC HC
  by_cases hlt:i < L.length
  ·obtain⟨r,hr⟩:∃ r,L[i]? = some r:=⟨_,List.getElem?_eq_getElem hlt⟩
   have hC:=HCC.out
   rw[drop_more hr] at hC
   have hnx:=next_some b A2 n2 c2 l r _ 0 gn wr hC
   rw[Nat.sub_zero] at hnx
   have htk:rs (L.take (i+1))=rs (L.take i)++rs [r]:=by
    obtain⟨hi',e⟩:=List.getElem?_eq_some_iff.1 hr
    rw[List.take_succ_eq_append_getElem hi',rs_append,e]
   have HNX:=hid hnx
   have HTK:=hid htk
   clear hC hnx htk hr HCC
   generalize hrp:r.p=rp at HNX
   generalize hrn:r.n=rn at HNX
   have hrs:rs [r]=[.int .i64 rp,.int .i64 (rn:Int)]:=by rw[← hrp,← hrn];rfl
   have HRS:=hid hrs
   clear hrs hrp hrn
   go_wp2_with fail
   refine HNX.out.mono ?_
   rintro e w4 ⟨rfl,hC4,hG4⟩
   have how4:=HOW.out.gb hG4 hblt
   have k4:=below_gb hb hG4 hbb hb.size
   have HCC:=hid hC4
   have hs4:=hG4.size
   clear hC4 hG4 HOW HNX
   have hl4:=bl1 w4 (.cells #[.int .i64 rp,.int .i64 (rn:Int)] 75)
   have how5:=how4.below rfl hl4
   have k5:=k4.trans (hl4.mono k4.size)
   have hC5:=HCC.out.below hl4
   have hs5:=hl4.size
   have b0:(w4.alloc (.cells #[.int .i64 rp,.int .i64 (rn:Int)] 75)).cell? ⟨w4.heap.size,0,none⟩=some (.int .i64 rp):=World.cell?_alloc_mark _ _ _ _ _
   have b1:(w4.alloc (.cells #[.int .i64 rp,.int .i64 (rn:Int)] 75)).cell? ⟨w4.heap.size,1,none⟩=some (.int .i64 (rn:Int)):=World.cell?_alloc_mark _ _ _ _ _
   have HC5:=hid hC5
   have HO5:=hid how5
   have HK5:=hid k5
   clear hC5 how5 k5 how4 k4 hl4 HCC
   have hlit:=fun W:World=>bl1 W (.cells #[.int .i64 rp,.int .i64 (rn:Int)] 75)
   have HLIT:=hid hlit
   have hrd:=rdV_new (w4.alloc (.cells #[.int .i64 rp,.int .i64 (rn:Int)] 75)) #[.int .i64 rp,.int .i64 (rn:Int)] 75 (rs [r]) HRS.out.symm
   have how6:=HO5.out.below rfl (HLIT.out (w4.alloc (.cells #[.int .i64 rp,.int .i64 (rn:Int)] 75)))
   have hB6:=(HLIT.out (w4.alloc (.cells #[.int .i64 rp,.int .i64 (rn:Int)] 75))).size
   rw[show (w4.alloc (.cells #[.int .i64 rp,.int .i64 (rn:Int)] 75)).heap.size=w4.heap.size+1 by simp] at hrd
   clear hlit
   go_wp2_with (at_builtin;go_loud (refine wpList_appV elR rfl (.tmp 17) (.tmp 19) rfl rfl w1.heap.size A' i c' _ rfl how6 _ 1 1 _ _ rfl hrd rfl (rs_one _) (by omega) (by unfold maxLen;omega) (by omega) (i+1) rfl (rs (L.take (i+1))) HTK.out.symm ?_;intro A2 c2 w2 hw2 hb2 _))
   go_roundw
   case rel =>
    have k6:=HK5.out.trans ((HLIT.out _).mono HK5.out.size)
    exact⟨i+1,c2,_,A2,by omega,rfl,hw2,((HC5.out.below (HLIT.out _)).belowB hb2 hblt),k6.trans (hb2.mono hb1.size),by have:=hb2.size;omega⟩
   case measure=>simp[lenOf];omega
  ·have e:L.drop i=[]:=List.drop_eq_nil_of_le (by omega)
   have e2:L.take i=L:=List.take_of_length_le (by omega)
   have hC:=HCC.out
   rw[e] at hC
   have how:=HOW.out
   rw[e2] at how
   have HOW2:=hid how
   have hi2:i=L.length:=by omega
   have hnx:=next_end b A2 n2 c2 l 0 gn wr hC
   have HNX:=hid hnx
   clear e e2 hC how HOW HCC hnx
   subst hi2
   generalize hq:L.length=q at *
   have HQ:=hid hq
   clear hq
   go_wp2_with fail
   refine HNX.out.mono ?_
   rintro e w4 ⟨rfl,hb4⟩
   go_wp2_with fail
   go_ret
   have hl4:=bl1 w4 (.cells #[.int .i64 0,.int .i64 0] 75)
   have hb5:=hb4.trans (hl4.mono hb4.size)
   have how5:=HOW2.out.below rfl hb5
   exact⟨A',c',by rw[HQ.out];rfl,by rw[HQ.out];exact how5.rdr,by rw[HQ.out];exact how5.cap,hb.trans (hb5.mono hb.size),(how5.weak hb1.size).newer⟩
def OfR (T:List Rn) (w:World) (e:Ending) (w':World):Prop :=
 if 96 < T.length then Ans (.tuple #[.slice none 0 0,.int .i64 3]) w e w' else
  ∃ A c,e=.returned (.tuple #[.slice A T.length c,.int .i64 0])∧RdR w' w'.heap.size A T.length T∧T.length≤c∧Below w.heap.size w w'∧∀ ad,A=some ad→w.heap.size≤ad.block
set_option maxHeartbeats 800000 in
theorem of_wrong (A:Option Addr) (n cap:Nat) (w:World) (R:Int) (hR:Calls Tryz.prog 70 #[.slice A n cap] w (Ans (.int .i64 R) w)) (h:¬ R=0) :
  Calls Tryz.prog 41 #[.slice A n cap] w (Ans (.tuple #[.slice none 0 0,.int .i64 R]) w):=by
 have HR:=hid hR
 have hne:(R != 0)=true:=bne_iff_ne.2 h
 have hne2:(R == 0)=false:=beq_eq_false_iff_ne.2 h
 clear hR
 go_enter Tryz.func41,Tryz.ntmps41
 go_wp2_with fail
 refine HR.out.mono ?_
 rintro e w1 ⟨rfl,hb1⟩
 go_wp2_with fail
 go_ret2
 exact⟨rfl,hb1⟩
set_option maxRecDepth 100000 in
set_option maxHeartbeats 1600000 in
theorem of_tree (A:Option Addr) (n cap:Nat) (x:Nd) (k:F) (w:World) (h:RdN w w.heap.size A n (x::k.flat)) (hc:n≤cap) (hok:(F.cons x k .nil).ok) (hn:n≤128) (hd:k.dep+1≤16) (hl:F.tick x k.len≤4096)
  (hR:Calls Tryz.prog 70 #[.slice A n cap] w (Ans (.int .i64 0) w)) :
  Calls Tryz.prog 41 #[.slice A n cap] w (OfR (tidy (one x k.lvs)) w):=by
 have hpos:∀ r∈one x k.lvs,1≤r.n:=fun r hr=>lvs_pos hok r (by simpa [F.lvs] using hr)
 have hlen:=length_le_ticks hpos
 have htk:ticks (one x k.lvs)≤4096:=by rw[one_ticks,lvs_ticks];exact hl
 have HL:=hid fun w' (h':RdN w' w'.heap.size A n (x::k.flat))=>pleaves_any A n cap x k w' h' hc hok hn hd hl
 generalize one x k.lvs=L at HL hlen htk ⊢
 have HT:=hid fun A2 c2 w2 (hr2:RdR w2 w2.heap.size A2 L.length L) (hc2:L.length≤c2)=>tidy_any A2 L.length c2 L w2 hr2 hc2 (by omega) (by omega)
 generalize tidy L=T at HT ⊢
 generalize x::k.flat=l at h HL
 unfold MadeR at HL HT
 have HR:=hid hR
 clear hR hpos hok
 go_enter Tryz.func41,Tryz.ntmps41
 go_wp2_with fail
 refine HR.out.mono ?_
 rintro e w1 ⟨rfl,hb1⟩
 go_wp2_with fail
 refine(HL.out w1 (h.on hb1)).mono ?_
 rintro e w2 ⟨A2,c2,rfl,hr2,hc2,hb2,_⟩
 have k2:=hb1.trans (hb2.mono hb1.size)
 have HT2:=hid (HT.out A2 c2 w2 hr2 hc2)
 clear HT hr2 HL HR hb1 hb2
 generalize L.length=q at hc2 HT2 ⊢
 go_wp2_with fail
 refine HT2.out.mono ?_
 rintro e w3 ⟨A3,c3,rfl,hr3,hc3,hb3,hnw⟩
 have k3:=k2.trans (hb3.mono k2.size)
 have HW:=hid fun ad e=>Nat.le_trans k2.size (hnw ad e)
 clear hnw
 by_cases h96:96 < T.length
 ·have H96:=hid h96
  have h96':(96:Int) < (T.length:Int):=by omega
  generalize T.length=m at h96' hc3 hr3 ⊢
  clear HT2 h96
  go_wp2_with fail
  go_ret2
  unfold OfR
  rw[if_pos H96.out]
  exact⟨rfl,k3⟩
 ·have H96:=hid h96
  have h96':¬ (96:Int) < (T.length:Int):=by omega
  have HR3:=hid hr3
  clear hr3 HT2 h96
  generalize hm:T.length=m at h96' hc3 HR3 ⊢
  have HM:=hid hm
  clear hm
  go_wp2_with fail
  go_ret2
  unfold OfR
  rw[if_neg H96.out]
  exact⟨A3,c3,by rw[HM.out];rfl,by rw[HM.out];exact HR3.out,by rw[HM.out];exact hc3,k3,HW.out⟩
set_option maxHeartbeats 800000 in
theorem rof_wrong (A:Option Addr) (n cap:Nat) (w:World) (R:Int) (hR:Calls Tryz.prog 45 #[.slice A n cap] w (Ans (.int .i64 R) w)) (h:¬ R=0) :
  Calls Tryz.prog 17 #[.slice A n cap] w (Ans (.tuple #[.slice none 0 0,.int .i64 R]) w):=by
 have HR:=hid hR
 have hne:(R != 0)=true:=bne_iff_ne.2 h
 have hne2:(R == 0)=false:=beq_eq_false_iff_ne.2 h
 clear hR
 go_enter Tryz.func17,Tryz.ntmps17
 go_wp2_with fail
 refine HR.out.mono ?_
 rintro e w1 ⟨rfl,hb1⟩
 go_wp2_with fail
 go_ret2
 exact⟨rfl,hb1⟩
set_option maxRecDepth 100000 in
set_option maxHeartbeats 1600000 in
theorem rof_tree (A:Option Addr) (n cap:Nat) (x:Nd) (k:F) (w:World) (h:RdN w w.heap.size A n (x::k.flat)) (hc:n≤cap) (hok:(F.cons x k .nil).ok) (hn:n≤128) (hd:k.dep+1≤16) (hl:F.tick x k.len≤4096)
  (hR:Calls Tryz.prog 45 #[.slice A n cap] w (Ans (.int .i64 0) w)) :
  Calls Tryz.prog 17 #[.slice A n cap] w (OfR (tidy (one x k.lvs)) w):=by
 have hpos:∀ r∈one x k.lvs,1≤r.n:=fun r hr=>lvs_pos hok r (by simpa [F.lvs] using hr)
 have hlen:=length_le_ticks hpos
 have htk:ticks (one x k.lvs)≤4096:=by rw[one_ticks,lvs_ticks];exact hl
 have HL:=hid fun w' (h':RdN w' w'.heap.size A n (x::k.flat))=>rLeaves_right A n cap x k w' h' hc hok hn hl
 generalize one x k.lvs=L at HL hlen htk ⊢
 have HT:=hid fun A2 c2 w2 (hr2:RdR w2 w2.heap.size A2 L.length L) (hc2:L.length≤c2)=>rtidy_any A2 L.length c2 L w2 hr2 hc2 (by omega) (by omega)
 generalize tidy L=T at HT ⊢
 generalize x::k.flat=l at h HL
 unfold MadeR at HL HT
 have HR:=hid hR
 clear hR hpos hok
 go_enter Tryz.func17,Tryz.ntmps17
 go_wp2_with fail
 refine HR.out.mono ?_
 rintro e w1 ⟨rfl,hb1⟩
 go_wp2_with fail
 refine(HL.out w1 (h.on hb1)).mono ?_
 rintro e w2 ⟨A2,c2,rfl,hr2,hc2,hb2,_⟩
 have k2:=hb1.trans (hb2.mono hb1.size)
 have HT2:=hid (HT.out A2 c2 w2 hr2 hc2)
 clear HT hr2 HL HR hb1 hb2
 generalize L.length=q at hc2 HT2 ⊢
 go_wp2_with fail
 refine HT2.out.mono ?_
 rintro e w3 ⟨A3,c3,rfl,hr3,hc3,hb3,hnw⟩
 have k3:=k2.trans (hb3.mono k2.size)
 have HW:=hid fun ad e=>Nat.le_trans k2.size (hnw ad e)
 clear hnw
 by_cases h96:96 < T.length
 ·have H96:=hid h96
  have h96':(96:Int) < (T.length:Int):=by omega
  generalize T.length=m at h96' hc3 hr3 ⊢
  clear HT2 h96
  go_wp2_with fail
  go_ret2
  unfold OfR
  rw[if_pos H96.out]
  exact⟨rfl,k3⟩
 ·have H96:=hid h96
  have h96':¬ (96:Int) < (T.length:Int):=by omega
  have HR3:=hid hr3
  clear hr3 HT2 h96
  generalize hm:T.length=m at h96' hc3 HR3 ⊢
  have HM:=hid hm
  clear hm
  go_wp2_with fail
  go_ret2
  unfold OfR
  rw[if_neg H96.out]
  exact⟨A3,c3,by rw[HM.out];rfl,by rw[HM.out];exact HR3.out,by rw[HM.out];exact hc3,k3,HW.out⟩
def ofz (n D:Nat) (L:List Rn):Int:=if rt n D (ticks L)=0 then (if 96 < (tidy L).length then 3 else 0) else rt n D (ticks L)
theorem ofz_ok {n D:Nat} {L:List Rn} (h:ofz n D L=0):n≤128∧D≤16∧ticks L≤4096∧(tidy L).length≤96:=by
 unfold ofz at h
 rcases rt_cases n D (ticks L) with ⟨h0,h1,h2,h3⟩ | h0
 ·rw[if_pos h0] at h
  split at h
  ·omega
  ·exact⟨h1,h2,h3,by omega⟩
 ·rw[if_neg h0] at h
  exact absurd h h0
def OfG (z:Int) (T:List Rn) (w:World) (e:Ending) (w':World):Prop :=
 ∃(A:Option Addr) (m c:Nat),e=.returned (.tuple #[.slice A m c,.int .i64 z])∧m≤c∧(z=0→RdR w' w'.heap.size A m T)∧Below w.heap.size w w'
theorem ofg_of {n D:Nat} {L:List Rn} {w w':World} {e:Ending} (h0:rt n D (ticks L)=0) (h:OfR (tidy L) w e w'):OfG (ofz n D L) (tidy L) w e w':=by
 unfold OfR at h
 unfold OfG ofz
 rw[if_pos h0]
 split at h
 ·rename_i h1
  rw[if_pos h1]
  exact⟨none,0,0,h.1,Nat.le_refl _,fun h=>by omega,h.2⟩
 ·rename_i h1
  rw[if_neg h1]
  obtain⟨A,c,rfl,hr,hc,hb,_⟩:=h
  exact⟨A,_,c,rfl,hc,fun _=>hr,hb⟩
theorem ofg_wrong {n D:Nat} {L:List Rn} {w w':World} {e:Ending} (h0:¬ rt n D (ticks L)=0) (h:Ans (.tuple #[.slice none 0 0,.int .i64 (rt n D (ticks L))]) w e w'):OfG (ofz n D L) (tidy L) w e w':=by
 unfold OfG ofz
 rw[if_neg h0]
 exact⟨none,0,0,h.1,Nat.le_refl _,fun h=>absurd h h0,h.2⟩
theorem of_any (A:Option Addr) (n cap:Nat) (x:Nd) (k:F) (w:World) (h:RdN w w.heap.size A n (x::k.flat)) (hc:n≤cap) (hok:(F.cons x k .nil).ok) (hn:n≤1048576) :
  Calls Tryz.prog 41 #[.slice A n cap] w (OfG (ofz n (k.dep+1) (one x k.lvs)) (tidy (one x k.lvs)) w):=by
 have hR:=right_tree A n cap _ x k w h hc hn hok rfl
 have e:F.tick x k.len=ticks (one x k.lvs):=by rw[one_ticks,lvs_ticks]
 rcases rt_cases n (k.dep+1) (F.tick x k.len) with ⟨h0,h1,h2,h3⟩ | h0
 ·rw[h0] at hR
  rw[e] at h0
  exact(of_tree A n cap x k w h hc hok h1 h2 h3 hR).mono fun _ _ h=>ofg_of h0 h
 ·rw[e] at h0 hR
  exact(of_wrong A n cap w _ hR h0).mono fun _ _ h=>ofg_wrong h0 h
theorem rof_any (A:Option Addr) (n cap:Nat) (x:Nd) (k:F) (w:World) (h:RdN w w.heap.size A n (x::k.flat)) (hc:n≤cap) (hok:(F.cons x k .nil).ok) (hn:n≤1048576) :
  Calls Tryz.prog 17 #[.slice A n cap] w (OfG (ofz n (k.dep+1) (one x k.lvs)) (tidy (one x k.lvs)) w):=by
 have hR:=rright_tree A n cap _ x k w h hc hn hok rfl
 have e:F.tick x k.len=ticks (one x k.lvs):=by rw[one_ticks,lvs_ticks]
 rcases rt_cases n (k.dep+1) (F.tick x k.len) with ⟨h0,h1,h2,h3⟩ | h0
 ·rw[h0] at hR
  rw[e] at h0
  exact(rof_tree A n cap x k w h hc hok h1 h2 h3 hR).mono fun _ _ h=>ofg_of h0 h
 ·rw[e] at h0 hR
  exact(rof_wrong A n cap w _ hR h0).mono fun _ _ h=>ofg_wrong h0 h
theorem ofz_runs {x:Nd} {k:F} (hok:(F.cons x k .nil).ok):0 < (tidy (one x k.lvs)).length∧∀ r∈tidy (one x k.lvs),1≤r.n∧-1≤r.p∧r.p≤5:=by
 constructor
 ·have h1:=F.len_pos hok (by simp[F.cnt])
  have h2:ticks (tidy (one x k.lvs))=F.tick x k.len:=by rw[ticks_tidy,one_ticks,lvs_ticks]
  rcases Nat.eq_zero_or_pos (tidy (one x k.lvs)).length with h | h
  ·have e:=List.eq_nil_of_length_eq_zero h
   rw[e] at h2
   simp only[ticks,F.len] at h1 h2
   omega
  ·exact h
 ·intro r hr
  refine⟨(tidy_apart _).pos r hr,?_⟩
  obtain⟨q,hq,e⟩:=tidy_part hr
  have:=lvs_parts hok q (by simpa [F.lvs] using hq)
  rw[e] at this
  exact this
end Go.Proofs.YtfddpnhaejkacaaGreat
