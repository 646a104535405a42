import Derived.Test.YtdkngfdnfekgfaaGreatLot20
set_option maxHeartbeats 4000000
set_option maxRecDepth 100000
set_option linter.unusedSimpArgs false
set_option linter.unusedVariables false
namespace Go.Proofs.YtdkngfdnfekgfaaGreat
open Go Go.RowKit
namespace Rgs
open Reg (waits writes left left_set all_listed Closed)
def good(ops:Array Oper)(n:Nat):Bool :=
 (List.range ops.size).all fun i=>match ops[i]? with
  | some o=>(match o.dst with
    | some d=>decide (d < n) && (List.range ops.size).all fun j=>j == i || (match ops[j]? with | some p=>!(p.dst == some d) | none=>true)
    | none=>true) && o.after.toList.all fun e=>!Region.binds .any e || decide (e.on < i)
  | none=>false
theorem good_at{ops:Array Oper}{n:Nat}(h:good ops n=true){i:Nat}{o:Oper}(hi:ops[i]? = some o):
  (∀ d,o.dst=some d→d < n∧∀ j p,ops[j]? = some p→j≠i→p.dst≠some d)∧∀ e∈o.after,Region.binds .any e=true→e.on < i:=by
 have hlt:i < ops.size:=(Array.getElem?_eq_some_iff.1 hi).1;have h1:=List.all_eq_true.1 h i (List.mem_range.2 hlt);rw[hi] at h1;simp only[Bool.and_eq_true] at h1;obtain⟨h2,h3⟩:=h1;refine⟨fun d hd=>?_,fun e he hbd=>?_⟩
 ·rw[hd] at h2;simp only[Bool.and_eq_true,decide_eq_true_iff] at h2;refine⟨h2.1,fun j p hj hne=>?_⟩;have hjl:j < ops.size:=(Array.getElem?_eq_some_iff.1 hj).1;have h4:=List.all_eq_true.1 h2.2 j (List.mem_range.2 hjl);rw[hj] at h4;simp only[Bool.or_eq_true,beq_iff_eq,Bool.not_eq_true',beq_eq_false_iff_ne] at h4;exact h4.resolve_left hne
 have:=List.all_eq_true.1 h3 e (Array.mem_toList_iff.2 he);rw[hbd] at this;simpa using this
def upd(live:Nat→Bool)(i:Nat):Nat→Bool:=fun j=>j == i || live j
structure Inv(ops:Array Oper)(a0:Act)(V:Nat→Value→World→Prop)(W:(Nat→Bool)→Act→World→Prop)(listed:Array Bool)(a:Act)(w:World):Prop where
 size:a.tmps.size=a0.tmps.size
 defers:a.defers=a0.defers
 env:∀ t,writes ops t=false→a.eval (.tmp t)=a0.eval (.tmp t)
 val:∀ j o,ops[j]? = some o→listed.getD j false=true→∃ v,V j v w∧∀ d,o.dst=some d→a.eval (.tmp d)=v
 world:W (fun j=>listed.getD j false) a w
 closed:Closed ops fun j=>listed.getD j false
def Owes(live:Nat→Bool)(V:Nat→Value→World→Prop)(W:(Nat→Bool)→Act→World→Prop)(i:Nat)(o:Oper)(a:Act)(w:World)(a':Act)(w':World):Prop :=
 ∃ v,a'=a.put o.dst v∧V i v w'∧W (upd live i) (a.put o.dst v) w'∧∀ j v,live j=true→V j v w→V j v w'
theorem live_set{listed:Array Bool}{i:Nat}(hi:i < listed.size):(fun j=>(listed.setIfInBounds i true).getD j false)=upd (fun j=>listed.getD j false) i:=by
 funext j;unfold upd;by_cases h:j=i
 ·subst h;simp[hi]
 rw[getD_set_ne false (Ne.symm h)];simp[h]
theorem upd_off{live:Nat→Bool}{i k:Nat}(h:upd live i k=false):live k=false:=by
 unfold upd at h;cases e:live k with
 | false=>rfl
 | true=>rw[e] at h;simp at h
theorem upd_self(live:Nat→Bool)(i:Nat):upd live i i=true:=by simp[upd]
theorem put_none(a:Act)(v:Value):a.put none v=a:=rfl
theorem Inv.step{ops:Array Oper}{a0:Act}{V:Nat→Value→World→Prop}{W:(Nat→Bool)→Act→World→Prop}{listed:Array Bool}{a a':Act}{w w':World}(hg:good ops a0.tmps.size=true)
  {i:Nat} {o:Oper} (hi:ops[i]? = some o) (hil:i < listed.size) (h:Inv ops a0 V W listed a w) (hr:∀ k,waits o k=true→listed.getD k false=true) (hs:Owes (fun j=>listed.getD j false) V W i o a w a' w'):Inv ops a0 V W (listed.setIfInBounds i true) a' w':=by
 obtain⟨v,rfl,hv,hw,hm⟩:=hs;obtain⟨hgd,_⟩:=good_at hg hi;have hcl:Closed ops fun j=>(listed.setIfInBounds i true).getD j false:=fun j p hj hl k hk=>by
  by_cases hji:j=i
  ·subst hji;rw[hi] at hj;injection hj with hj;subst hj;exact getD_set_true (hr k hk)
  have hl':(listed.setIfInBounds i true).getD j false=true:=hl;rw[getD_set_ne false (Ne.symm hji)] at hl';exact getD_set_true (h.closed j p hj hl' k hk)
 cases hd:o.dst with
 | none =>
  rw[hd] at hw;rw[put_none] at hw ⊢;refine⟨h.size,h.defers,h.env,fun j p hj hl=>?_,by rw[live_set hil];exact hw,hcl⟩;by_cases hji:j=i
  ·subst hji;rw[hi] at hj;injection hj with hj;subst hj;exact⟨v,hv,fun d e=>by rw[hd] at e;cases e⟩
  rw[getD_set_ne false (Ne.symm hji)] at hl;obtain⟨u,hu,he⟩:=h.val j p hj hl;exact⟨u,hm j u hl hu,he⟩
 | some d =>
  rw[hd] at hw;obtain⟨hdn,hdist⟩:=hgd d hd;have hsz:d < a.tmps.size:=by rw[h.size];exact hdn
  refine⟨by simp[Act.put,h.size],by simp[Act.put,h.defers],fun t ht=>?_,fun j p hj hl=>?_,by rw[live_set hil];exact hw,hcl⟩
  ·have hne:d≠t:=by
    rintro rfl;have:writes ops d=true:=List.any_eq_true.2 ⟨o,Array.mem_toList_iff.2 (Array.mem_of_getElem? hi),by simp[hd]⟩;rw[this] at ht;cases ht
   rw[Reg.eval_other _ _ _ _ hne];exact h.env t ht
  by_cases hji:j=i
  ·subst hji;rw[hi] at hj;injection hj with hj;subst hj;exact⟨v,hv,fun d' e=>by rw[hd] at e;injection e with e;subst e;exact Reg.eval_same _ _ _ hsz⟩
  rw[getD_set_ne false (Ne.symm hji)] at hl;obtain⟨u,hu,he⟩:=h.val j p hj hl;refine⟨u,hm j u hl hu,fun d' e=>?_⟩;rw[Reg.eval_other _ _ _ _ fun e2=>hdist j p hj hji (by rw[e,e2])];exact he d' e
theorem all_live{ops:Array Oper}{n:Nat}(hg:good ops n=true){listed:Array Bool}(hs:listed.size=ops.size)(hr:Region.ready .any ops listed=[]):
  ∀ j,j < ops.size→listed.getD j false=true:=by
 intro j;induction j using Nat.strongRecOn with
 | ind j ih =>
  intro hj;have hjl:j < listed.size:=by omega
  cases hb:listed.getD j false with
  | true=>rfl
  | false =>
   have hb':listed.getD j true=false:=by
    simpa [hjl] using hb
   obtain⟨o,ho⟩:∃ o,ops[j]? = some o:=⟨_,Array.getElem?_eq_getElem hj⟩;obtain⟨_,hacy⟩:=good_at hg ho;have:j∈Region.ready .any ops listed:=mem_ready.2 ⟨hb',o,ho,fun e he hbd=>ih e.on (hacy e he hbd) (by have:=hacy e he hbd;omega)⟩;rw[hr] at this;cases this
def Goal(P:Program)(ops:Array Oper)(Q:Exit→Act→World→Prop)(V:Nat→Value→World→Prop)(W:(Nat→Bool)→Act→World→Prop)(live:Nat→Bool)(i:Nat)(o:Oper)(a:Act)(w:World):Prop :=
 wpOp P ops Q i (Owes live V W i o a w) a w
def Step(P:Program)(ops:Array Oper)(Q:Exit→Act→World→Prop)(a0:Act)(V:Nat→Value→World→Prop)(W:(Nat→Bool)→Act→World→Prop)(i:Nat)(o:Oper):Prop :=
 ∀(a:Act) (w:World) (live:Nat→Bool),a.tmps.size=a0.tmps.size→(∀ t,writes ops t=false→a.eval (.tmp t)=a0.eval (.tmp t)) →
  (∀ j,waits o j=true→∀ p d,ops[j]? = some p→p.dst=some d→V j (a.eval (.tmp d)) w)→Closed ops live→live i=false→(∀ k,waits o k=true→live k=true)→W live a w→Goal P ops Q V W live i o a w
def Steps(P:Program)(ops:Array Oper)(Q:Exit→Act→World→Prop)(a0:Act)(V:Nat→Value→World→Prop)(W:(Nat→Bool)→Act→World→Prop):Prop :=
 ∀ i o,ops[i]? = some o→Step P ops Q a0 V W i o
theorem any_of{P:Program}{ops:Array Oper}{Q:Exit→Act→World→Prop}{a0:Act}{V:Nat→Value→World→Prop}{W:(Nat→Bool)→Act→World→Prop}(hg:good ops a0.tmps.size=true)(hst:Steps P ops Q a0 V W)
  (hend:∀ listed a w,Inv ops a0 V W listed a w→(∀ j,j < ops.size→listed.getD j false=true)→Q .normal a w) :
  ∀(fuel:Nat) (listed:Array Bool) (a:Act) (w:World),listed.size=ops.size→left listed≤fuel→Inv ops a0 V W listed a w→wpAny P .any ops Q fuel listed a w:=by
 intro fuel
 induction fuel with
 | zero =>
  intro listed a w hs hl h
  have hr:Region.ready .any ops listed=[]:=by
   cases hc:Region.ready .any ops listed with
   | nil=>rfl
   | cons i r =>
    have hi:i∈Region.ready .any ops listed:=by rw[hc];exact List.mem_cons_self
    have:=left_set (mem_ready.1 hi).1
    omega
  exact⟨hr,hend listed a w h (all_live hg hs hr)⟩
 | succ fuel ih =>
  intro listed a w hs hl h
  refine⟨fun hr=>hend listed a w h (all_live hg hs hr),fun i hi=>?_⟩
  obtain⟨h0,o,ho,hall⟩:=mem_ready.1 hi
  have hi':i < ops.size:=(Array.getElem?_eq_some_iff.1 ho).1
  have hlt:i < listed.size:=by omega
  have hwait:∀ k,waits o k=true→k < i∧listed.getD k false=true:=fun k hk=>by
   obtain⟨e,he,heq⟩:=List.any_eq_true.1 hk
   have he:=Array.mem_toList_iff.1 he
   simp only[Bool.and_eq_true,beq_iff_eq] at heq
   obtain⟨rfl,hb⟩:=heq
   obtain⟨_,hacy⟩:=good_at hg ho
   exact⟨hacy e he hb,hall e he hb⟩
  have hstep:=hst i o ho a w (fun j=>listed.getD j false) h.size h.env (fun j hj p d hp hd=>by
   obtain⟨v,hv,he⟩:=h.val j p hp (hwait j hj).2
   rw[he d hd]
   exact hv) h.closed (by simpa [hlt] using h0) (fun k hk=>(hwait k hk).2) h.world
  refine wpOp_mono (fun a' w' hw=>?_) hstep
  refine ih _ a' w' (by simpa using hs) ?_ (h.step hg ho hlt (fun k hk=>(hwait k hk).2) hw)
  have:=left_set h0
  omega
theorem region{P:Program}{id:Nat}{ops:Array Oper}{Q:Exit→Act→World→Prop}{a0:Act}{w0:World}(hm:P.follows .mixedOrders=true)(hg:good ops a0.tmps.size=true)(V:Nat→Value→World→Prop)(W:(Nat→Bool)→Act→World→Prop)
  (hW:W (fun _=>false) a0 w0.drew) (hst:Steps P ops Q a0 V W)
  (hend:∀ a w live,a.tmps.size=a0.tmps.size→a.defers=a0.defers→(∀ t,writes ops t=false→a.eval (.tmp t)=a0.eval (.tmp t))→(∀ j p,ops[j]? = some p→∃ v,V j v w∧∀ d,p.dst=some d→a.eval (.tmp d)=v)→(∀ j,j < ops.size→live j=true)→W live a w→Q .normal a w) :
  (Code.region id ops true).wp P Q a0 w0:=by
 refine wp_region_any hm ?_
 have hfalse:(fun j=>(Array.replicate ops.size false).getD j false)=fun _=>false:=by
  funext j
  by_cases hj:j < ops.size <;> simp[hj]
 refine any_of hg hst (fun listed a w h hall=>hend a w (fun j=>listed.getD j false) h.size h.defers h.env (fun j p hj=>h.val j p hj (hall j (Array.getElem?_eq_some_iff.1 hj).1)) hall h.world) ops.size (Array.replicate ops.size false) a0 w0.drew (by simp) ?_ ?_
 ·unfold left
  have:=List.countP_le_length (p:=(· == false)) (l:=(Array.replicate ops.size false).toList)
  simpa using this
 ·refine⟨rfl,rfl,fun _ _=>rfl,fun j p hj hl=>?_,by rw[hfalse];exact hW,fun j p hj hl k hk=>?_⟩
  ·have hjl:j < ops.size:=(Array.getElem?_eq_some_iff.1 hj).1
   simp[hjl] at hl
  ·have hjl:j < ops.size:=(Array.getElem?_eq_some_iff.1 hj).1
   have hl':(Array.replicate ops.size false).getD j false=true:=hl
   simp[hjl] at hl'
theorem steps_of{P:Program}{l:List Oper}{Q:Exit→Act→World→Prop}{a0:Act}{V:Nat→Value→World→Prop}{W:(Nat→Bool)→Act→World→Prop}
  (h:Reg.All (fun i o=>Step P l.toArray Q a0 V W i o) 0 l):Steps P l.toArray Q a0 V W:=by
 intro i o hi;have:=Reg.All.get l 0 h i o (by simpa using hi);rwa [Nat.zero_add] at this
section
variable {P:Program} {ops:Array Oper} {Q:Exit→Act→World→Prop} {V:Nat→Value→World→Prop} {W:(Nat→Bool)→Act→World→Prop} {live:Nat→Bool} {i:Nat} {o:Oper} {a:Act} {w:World}
theorem val(hi:ops[i]? = some o)(hw:Region.wanted o (yielded ops a.tmps)=true)(v:Value)(hr:(execOp a.eval o).run P w=.ok (.value v) w)(hv:V i v w)(hW:W (upd live i) (a.put o.dst v) w):Goal P ops Q V W live i o a w:=by
 unfold Goal wpOp;rw[hi];simp only[hw,if_true];refine .inl ?_;unfold Oper.wp;rw[hr];exact⟨v,rfl,hv,hW,fun _ _ _ h=>h⟩
theorem va(v:Value)(hW:W (upd live i) (a.put o.dst v) w)(hr:(execOp a.eval o).run P w=.ok (.value v) w:=by(have c:=Reg.consts a;generalize a.eval=ρ at *;simp [execOp,go_sem,c.1,c.2, *]))(hv:V i v w:=by rfl)(hi:ops[i]? = some o:=by rfl)(hg:o.guard=none:=by rfl):Goal P ops Q V W live i o a w:=val hi (Reg.wanted_free hg) v hr hv hW
theorem grow(hi:ops[i]? = some o)(hw:Region.wanted o (yielded ops a.tmps)=true)(v:Value)(w':World)(hr:(execOp a.eval o).run P w=.ok (.value v) w')(hv:V i v w')(hW:W (upd live i) (a.put o.dst v) w')
  (hm:∀ j v,live j=true→V j v w→V j v w'):Goal P ops Q V W live i o a w:=by
 unfold Goal wpOp;rw[hi];simp only[hw,if_true];refine .inl ?_;unfold Oper.wp;rw[hr];exact⟨v,rfl,hv,hW,hm⟩
theorem store(hi:ops[i]? = some o)(hw:Region.wanted o (yielded ops a.tmps)=true)(w':World)(hr:(execOp a.eval o).run P w=.ok .skip w')(hv:V i undef w')(hW:W (upd live i) (a.put o.dst undef) w')
  (hm:∀ j v,live j=true→V j v w→V j v w'):Goal P ops Q V W live i o a w:=by
 unfold Goal wpOp;rw[hi];simp only[hw,if_true];refine .inl ?_;unfold Oper.wp;rw[hr];exact⟨undef,rfl,hv,hW,hm⟩
theorem call(hi:ops[i]? = some o)(hw:Region.wanted o (yielded ops a.tmps)=true)(f:FuncId)(args:Array Value)(hr:(execOp a.eval o).run P w=.ok (.enter f args) w)
  (hc:Calls P f args w fun e w'=>∃ v,e=.returned v∧V i v w'∧W (upd live i) (a.put o.dst v) w'∧∀ j v,live j=true→V j v w→V j v w'):Goal P ops Q V W live i o a w:=by
 unfold Goal wpOp;rw[hi];simp only[hw,if_true];refine .inl ?_;unfold Oper.wp;rw[hr];refine hc.mono fun e w' he=>?_;obtain⟨v,rfl,h1,h2,h3⟩:=he;exact⟨v,rfl,h1,h2,h3⟩
theorem skip(hi:ops[i]? = some o)(hw:Region.wanted o (yielded ops a.tmps)=false)(hv:V i undef w)(hW:W (upd live i) (a.put o.dst undef) w):Goal P ops Q V W live i o a w:=by
 unfold Goal wpOp;rw[hi];simp only[hw];exact⟨undef,rfl,hv,hW,fun _ _ _ h=>h⟩
end
theorem wanted_not{ops:Array Oper}{o:Oper}{a:Act}{g:Nat}{want b:Bool}(h:o.guard=some (g,want)){t:Tmp}(ht:(ops[g]?).bind (·.dst)=some t)(hv:a.eval (.tmp t)=.bool b)(hb:(b == want)=false):Region.wanted o (yielded ops a.tmps)=false:=by
 have hlt:t < a.tmps.size:=by
  rcases Nat.lt_or_ge t a.tmps.size with h' | h'
  ·exact h'
  simp[Act.eval,Array.getElem?_eq_none h',undef] at hv
 have h2:a.tmps[t]? = some (.bool b):=by
  simpa [Act.eval,hlt] using hv
 simp only[Region.wanted,h,yielded,ht,Option.bind_some,h2];have:b≠want:=by simpa using hb
 simp[this]
theorem foldl_set(g:Nat→Value)(ws:List Nat):∀ arr:Array Value,(ws.foldl (fun r t=>r.setIfInBounds t (g t)) arr).size=arr.size∧∀ t,t < arr.size→(ws.foldl (fun r t=>r.setIfInBounds t (g t)) arr)[t]? = if t∈ws then some (g t) else arr[t]?:=by
 induction ws with
 | nil=>intro arr;exact⟨rfl,fun t _=>by simp⟩
 | cons x ws ih =>
  intro arr;rw[List.foldl_cons];obtain⟨h1,h2⟩:=ih (arr.setIfInBounds x (g x));refine⟨by rw[h1];simp,fun t ht=>?_⟩;rw[h2 t (by simpa using ht)];by_cases hm:t∈ws
  ·rw[if_pos hm,if_pos (List.mem_cons_of_mem _ hm)]
  rw[if_neg hm];by_cases hx:t=x
  ·subst hx;rw[if_pos List.mem_cons_self];simp[ht]
  rw[if_neg (by simp[hx,hm]),Array.getElem?_setIfInBounds_ne (Ne.symm hx)]
theorem act_ws{ops:Array Oper}(a:Act)(T:Array Value)(dl:List Deferred)(hs:a.tmps.size=T.size)(hd:a.defers=dl)(E:∀ t,writes ops t=false→a.eval (.tmp t)=(Act.mk T dl).eval (.tmp t))(ws:List Nat)
  (hw:((List.range T.size).all fun t=>!writes ops t || ws.contains t)=true):a=⟨ws.foldl (fun r t=>r.setIfInBounds t (a.eval (.tmp t))) T,dl⟩:=by
 obtain⟨h1,h2⟩:=foldl_set (fun t=>a.eval (.tmp t)) ws T;obtain⟨tmps,defers⟩:=a;simp only at hs hd;subst hd;congr 1;apply Array.ext_getElem?;intro t;by_cases ht:t < T.size
 ·rw[h2 t ht];have hta:tmps[t]? = some ((Act.mk tmps defers).eval (.tmp t)):=by
   have:t < tmps.size:=by omega
   simp[Act.eval,this]
  by_cases hm:t∈ws
  ·rw[if_pos hm,hta]
  rw[if_neg hm,hta];have hnw:writes ops t=false:=by
   have:=List.all_eq_true.1 hw t (List.mem_range.2 ht);simp only[Bool.or_eq_true,Bool.not_eq_true'] at this;rcases this with h | h
   ·exact h
   exact absurd (List.contains_iff_mem.1 h) hm
  rw[E t hnw];simp[Act.eval,ht]
 rw[Array.getElem?_eq_none (by omega),Array.getElem?_eq_none (by rw[h1];omega)]
section
variable {w0 w:World} {N i:Nat} {p:Addr} {v:Value} {live:Nat→Bool}
end
section
variable {w0 w:World} {N M i:Nat} {p q:Addr} {u v:Value} {live:Nat→Bool}
end
section
variable {w0 w1 w2 w:World} {N M i:Nat} {live:Nat→Bool}
end
end Rgs
end Go.Proofs.YtdkngfdnfekgfaaGreat
namespace Go.Proofs.YtdkngfdnfekgfaaGreat
open Go.RowKit Tab
def rnd(W:List Int)(t:Nat):Option Int:=W[t % W.length]?
theorem rnd_add(W:List Int)(t k:Nat):rnd W (t+W.length*k)=rnd W t:=by
 unfold rnd;rw[Nat.add_mul_mod_self_left]
theorem rnd_lt{W:List Int}{t:Nat}(h:t < W.length):rnd W t=W[t]?:=by
 unfold rnd;rw[Nat.mod_eq_of_lt h]
def Dst(W:List Int)(q:Int)(t d:Nat):Prop:=1≤d∧rnd W (t+d)=some q∧∀ e,1≤e→e < d→¬ rnd W (t+e)=some q
theorem Dst.eq{W:List Int}{q:Int}{t d e:Nat}(h:Dst W q t d)(k:Dst W q t e):d=e:=by
 rcases Nat.lt_trichotomy d e with hl | hl | hl
 ·exact absurd h.2.1 (k.2.2 d h.1 hl)
 ·exact hl
 exact absurd k.2.1 (h.2.2 e k.1 hl)
theorem distF_dst{W:List Int}{q:Int}{t:Nat}:∀ f d,1≤d→(∀ e,1≤e→e < d→¬ rnd W (t+e)=some q)→(∃ e,d≤e∧e < d+f∧rnd W (t+e)=some q)→Dst W q t (distF W q t f d):=by
 intro f;induction f with
 | zero=>rintro d _ _⟨e,h1,h2,_⟩;omega
 | succ f ih =>
  intro d hd hno hex;by_cases hh:rnd W (t+d)=some q
  ·rw[distF_yes (by unfold rnd at hh;exact hh)];exact⟨hd,hh,hno⟩
  rw[distF_no (by unfold rnd at hh;exact hh)];refine ih (d+1) (by omega) (fun e h1 h2=>?_) ?_
  ·by_cases hed:e=d
   ·subst hed;exact hh
   exact hno e h1 (by omega)
  obtain⟨e,h1,h2,h3⟩:=hex;refine⟨e,?_,by omega,h3⟩;rcases Nat.lt_or_ge d e with h4 | h4
  ·omega
  have:e=d:=by omega
  subst this;exact absurd h3 hh
theorem dist_dst{W:List Int}{q:Int}(h:hasL q W=true)(t:Nat):Dst W q t (dist W q t):=by
 obtain⟨e,h1,h2,h3⟩:=dist_ex h t;exact distF_dst W.length 1 (Nat.le_refl _) (fun e h1 h2=>by omega) ⟨e,h1,by omega,h3⟩
theorem dist_le{W:List Int}{q:Int}(h:hasL q W=true)(t:Nat):dist W q t≤W.length:=by
 obtain⟨e,h1,h2,h3⟩:=dist_ex h t;have k:=dist_dst h t;rcases Nat.lt_or_ge e (dist W q t) with hl | hl
 ·exact absurd h3 (k.2.2 e h1 hl)
 omega
theorem lateW_le{W:List Int}{p q:Int}{M:Nat}:∀ k,lateW W p q k≤M↔∀ t,t < k→W[t]? = some p→dist W q t≤M:=by
 intro k;induction k with
 | zero=>exact⟨fun _ t h=>by omega,fun _=>Nat.zero_le _⟩
 | succ k ih =>
  unfold lateW;by_cases hp:W[k]? = some p
  ·rw[if_pos hp];constructor
   ·intro h t ht hpt;by_cases htk:t=k
    ·subst htk;omega
    exact(ih.1 (by omega)) t (by omega) hpt
   intro h;have h1:=ih.2 fun t ht hpt=>h t (by omega) hpt;have h2:=h k (by omega) hp;omega
  rw[if_neg hp,ih];constructor
  ·intro h t ht hpt;by_cases htk:t=k
   ·subst htk;exact absurd hpt hp
   exact h t (by omega) hpt
  exact fun h t ht hpt=>h t (by omega) hpt
theorem nat_eq_of_le{a b:Nat}(h:∀ M,a≤M↔b≤M):a=b:=Nat.le_antisymm ((h b).2 (Nat.le_refl _)) ((h a).1 (Nat.le_refl _))
structure Circ(V W:List Int)(a:Nat):Prop where
 pos:0 < W.length
 eq:∀ i,rnd V i=rnd W (i+a)
def gapL(W:List Int)(p:Int):Int:=if lateL W p p < 1 then -1 else lateL W p p - 1
theorem lateL_le(W:List Int)(p q:Int):lateL W p q≤W.length:=by
 unfold lateL;split
 ·omega
 split
 ·omega
 rename_i h;have hq:hasL q W=true:=by simpa using h
 have:=(lateW_le (W:=W) (p:=p) (q:=q) (M:=W.length) W.length).2 fun t _ _=>dist_le hq t;omega
theorem cnt_has{W:List Int}{p:Int}:0 < cntF p W↔hasL p W=true:=by
 induction W with
 | nil=>simp[cntF,hasL]
 | cons x W ih =>
  simp only[cntF,hasL,Bool.or_eq_true,decide_eq_true_eq,← ih];by_cases hx:x=p
  ·simp[hx];omega
  simp[hx]
theorem cnt_rep(p x:Int)(n:Nat):cntF p (List.replicate n x)=if x=p then n else 0:=by
 induction n with
 | zero=>simp[cntF]
 | succ n ih =>
  simp only[List.replicate_succ,cntF,ih];by_cases h:x=p
  ·simp[h];omega
  simp[h]
theorem cnt_words(p:Int)(L:List Rn):cntF p (wordsL L)=tkOf p L:=by
 induction L with
 | nil=>rfl
 | cons r s ih=>simp only[wordsL,cntF_append,cnt_rep,tkOf,ih]
theorem budL_ge(W:List Int)(p z:Int):-1≤budL W p z:=by
 unfold budL;split
 ·omega
 split
 ·omega
 split <;> omega
def chLate(W:List Int)(x:ChV):Bool:=decide (0 < x.late) && (decide (lateL W x.from_ x.to_ < 0) || decide (x.late < lateL W x.from_ x.to_))
def ptShort(W:List Int)(i:Nat)(x:PtV):Bool:=decide (0 < x.bud) && decide (budL W (i:Int) x.per < x.bud)
def shortF(W:List Int):Nat→List PtV→Bool
 | _,[]=>false
 | i,x::l=>ptShort W i x || shortF W (i+1) l
def holdsF(W:List Int)(P:List PtV)(C:List ChV):Int:=if C.any (chLate W)=true then 19 else if shortF W 0 P=true then 20 else 0
theorem holdsF_late{W:List Int}{P:List PtV}{C:List ChV}(h:C.any (chLate W)=true):holdsF W P C=19:=if_pos h
theorem holdsF_short{W:List Int}{P:List PtV}{C:List ChV}(h:C.any (chLate W)=false)(h2:shortF W 0 P=true):holdsF W P C=20:=by unfold holdsF;rw[if_neg (by rw[h];decide),if_pos h2]
theorem holdsF_ok{W:List Int}{P:List PtV}{C:List ChV}(h:C.any (chLate W)=false)(h2:shortF W 0 P=false):holdsF W P C=0:=by unfold holdsF;rw[if_neg (by rw[h];decide),if_neg (by rw[h2];decide)]
theorem any_more{α:Type}(f:α→Bool){l:List α}{i:Nat}{x:α}(h:l[i]? = some x):(l.take (i+1)).any f=((l.take i).any f || f x):=by
 obtain⟨hi,e⟩:=List.getElem?_eq_some_iff.1 h;rw[List.take_succ_eq_append_getElem hi,List.any_append,e];simp
theorem any_mem{α:Type}(f:α→Bool){l:List α}{i:Nat}{x:α}(h:l[i]? = some x)(hf:f x=true):l.any f=true:=List.any_eq_true.2 ⟨x,List.mem_of_getElem? h,hf⟩
theorem shortF_append(W:List Int)(a b:List PtV):∀ i,shortF W i (a++b)=(shortF W i a || shortF W (i+a.length) b):=by
 induction a with
 | nil=>intro i;simp[shortF]
 | cons x a ih =>
  intro i;simp only[List.cons_append,shortF,ih,List.length_cons,Bool.or_assoc];rw[show i+1+a.length=i+(a.length+1) by omega]
theorem short_more{W:List Int}{l:List PtV}{i:Nat}{x:PtV}(h:l[i]? = some x):shortF W 0 (l.take (i+1))=(shortF W 0 (l.take i) || ptShort W i x):=by
 obtain⟨hi,e⟩:=List.getElem?_eq_some_iff.1 h;rw[List.take_succ_eq_append_getElem hi,shortF_append,e,Nat.zero_add,List.length_take,Nat.min_eq_left (by omega)];simp[shortF]
theorem short_mem{W:List Int}{l:List PtV}{i:Nat}{x:PtV}(h:l[i]? = some x)(hs:ptShort W i x=true):shortF W 0 l=true:=by
 have e:=short_more (W:=W) h;rw[hs,Bool.or_true] at e;have k:=shortF_append W (l.take (i+1)) (l.drop (i+1)) 0;rw[List.take_append_drop,e,Bool.true_or] at k;exact k
theorem shortF_iff{W:List Int}{l:List PtV}:shortF W 0 l=false↔∀ i x,l[i]? = some x→ptShort W i x=false:=by
 constructor
 ·intro h i x hx;cases hs:ptShort W i x with
  | false=>rfl
  | true=>rw[short_mem hx hs] at h;cases h
 intro h;have key:∀ k,shortF W 0 (l.take k)=false:=by
  intro k;induction k with
  | zero=>rfl
  | succ k ih =>
   cases hx:l[k]? with
   | none =>
    have:l.length≤k:=List.getElem?_eq_none_iff.1 hx;rw[List.take_of_length_le (by omega)];rw[List.take_of_length_le this] at ih;exact ih
   | some x=>rw[short_more hx,ih,h k x hx];rfl
 have:=key l.length;rwa [List.take_length] at this
theorem holdsx_any(A1 A2 A3 A4:Option Addr)(n1 n2 n3 n4 c1 c2 c3 c4:Nat)(P:List PtV)(C:List ChV)(L:List Rn)(w:World)(hP:RdB pcl w w.heap.size A1 n1 P)(hC:RdB cc w w.heap.size A2 n2 C)(hL:RdR w w.heap.size A4 n4 L)
  (q1:n1≤1048576) (q2:n2≤1048576) (q4:n4≤c4) (q5:n4≤1048576) (ht:ticks L≤8192) (hz:∀ x∈P,In64 x.per) :
  Calls Tryz.prog 73 #[.agg #[.slice A1 n1 c1,.slice A2 n2 c2,.slice A3 n3 c3],.slice A4 n4 c4] w (Ans (.int .i64 (holdsF (wordsL L) P C)) w):=by
 have hb0:=bl1 w (.cells #[.slice A1 n1 c1,.slice A2 n2 c2,.slice A3 n3 c3] 26)
 have hP0:=hP.on hb0
 have hC0:=hC.on hb0
 have hL0:=hL.on hb0
 have m0:(w.alloc (.cells #[.slice A1 n1 c1,.slice A2 n2 c2,.slice A3 n3 c3] 26)).cell? ⟨w.heap.size,0,none⟩=some (.slice A1 n1 c1):=World.cell?_alloc_mark _ _ _ _ _
 have hgs:w.heap.size < (w.alloc (.cells #[.slice A1 n1 c1,.slice A2 n2 c2,.slice A3 n3 c3] 26)).heap.size:=by simp
 have HZ:=hid hz
 obtain⟨R,hR⟩:∃ R,R=holdsF (wordsL L) P C:=⟨_,rfl⟩
 rw[← hR]
 obtain⟨X,hX⟩:∃ X,X=wordsL L:=⟨_,rfl⟩
 rw[← hX] at hR
 have HR:=hid hR
 have HX:=hid hX
 have hPl:=hP.len
 have hCl:=hC.len
 have HPL:=hid hPl
 have HCL:=hid hCl
 clear hP hC hL hz hR hX hPl hCl
 go_enter Tryz.func73,Tryz.ntmps73
 go_wp2_with fail
 generalize w.alloc (.cells #[.slice A1 n1 c1,.slice A2 n2 c2,.slice A3 n3 c3] 26)=W at hb0 hP0 hC0 hL0 m0 hgs ⊢
 obtain⟨g,hg⟩:∃ g,g=w.heap.size:=⟨_,rfl⟩
 rw[← hg] at m0 hgs ⊢
 have HG:=hid hg
 have HM0:=hid m0
 clear hg m0
 go_loopw [6,7,13] (fun _ _ s wr=>∃ i:Nat,i≤n2∧s=.int .i64 i∧(C.take i).any (chLate X)=false∧Below W.heap.size W wr) (fun _ _ s _=>n2 - (intOf s).toNat)
 case atStart=>exact⟨0,by omega,rfl,rfl,Below.refl _ _⟩
 case round =>
  obtain⟨i,hi,rfl,hany,hb⟩:=hrel
  have HANY:=hid hany
  clear hany
  by_cases hlt:i < n2
  ·obtain⟨ad,x,rfl,had,hx,c0,ck⟩:=(hC0.on hb).at_ cc_len (by omega) hlt
   have d0:=c0 _ rfl
   have d1:=ck 1 _ (by omega) rfl
   have d2:=ck 2 _ (by omega) rfl
   have d3:=ck 3 _ (by omega) rfl
   have d4:=ck 4 _ (by omega) rfl
   have d5:=ck 5 _ (by omega) rfl
   have HMORE:=hid (any_more (chLate X) hx)
   have HMEM:=hid (any_mem (chLate X) hx)
   obtain⟨xf,xt,xq,xc,xm,xl⟩:=x
   dsimp only at d0 d1 d2 d3 d4 d5
   have hbx:=bl1 wr (.cells #[.int .i64 xf,.int .i64 xt,.bool xq,.int .i64 xc,.int .u32 xm,.int .i64 xl] 63)
   have hb1:=hb.trans (hbx.mono hb.size)
   have HLT:=hid (late_any A4 n4 c4 L xf xt _ (hL0.on hb1) q4 q5 ht)
   have HB1:=hid hb1
   clear c0 ck hx hbx hb1
   go_wp2_with fail
   refine HLT.out.mono ?_
   rintro e w5⟨rfl,hb5⟩
   have e5:w5.cell? ⟨wr.heap.size,5,none⟩=some (.int .i64 xl):=(hb5.cell (p:=⟨wr.heap.size,5,none⟩) (by simp)).trans (World.cell?_alloc_mark _ _ _ _ _)
   have HB5:=hid (HB1.out.trans (hb5.mono HB1.out.size))
   clear hb5 HLT HB1 d0 d1 d2 d3 d4 d5
   rw[← HX.out]
   have hcl:chLate X ⟨xf,xt,xq,xc,xm,xl⟩=(decide (0 < xl) && (decide (lateL X xf xt < 0) || decide (xl < lateL X xf xt))):=rfl
   generalize lateL X xf xt=z at hcl ⊢
   generalize wr.heap.size=gx at e5 ⊢
   have HCL2:=hid hcl
   clear hcl
   by_cases t1:0 < xl
   ·have u1:decide (0 < xl)=true:=decide_eq_true t1
    by_cases t2:z < 0
    ·have u2:decide (z < 0)=true:=decide_eq_true t2
     have hres:R=19:=by
      rw[HR.out]
      exact holdsF_late (HMEM.out (by rw[HCL2.out,u1,u2];rfl))
     subst hres
     go_wp2_with fail
     go_ret
     exact Ans.mk rfl (hb0.trans (HB5.out.mono hb0.size))
    ·have u2:decide (z < 0)=false:=decide_eq_false t2
     by_cases t3:xl < z
     ·have u3:decide (xl < z)=true:=decide_eq_true t3
      have hres:R=19:=by
       rw[HR.out]
       exact holdsF_late (HMEM.out (by rw[HCL2.out,u1,u3];simp))
      subst hres
      go_wp2_with fail
      go_ret
      exact Ans.mk rfl (hb0.trans (HB5.out.mono hb0.size))
     ·have u3:decide (xl < z)=false:=decide_eq_false t3
      have HN:Hid ((C.take (i+1)).any (chLate X)=false):=hid (by rw[HMORE.out,HANY.out,HCL2.out,u1,u2,u3];rfl)
      go_wp2_with fail
      go_roundw
      case rel=>exact⟨i+1,by omega,by go_num,HN.out,HB5.out⟩
      case measure=>simp[intOf];omega
   ·have u1:decide (0 < xl)=false:=decide_eq_false t1
    have HN:Hid ((C.take (i+1)).any (chLate X)=false):=hid (by rw[HMORE.out,HANY.out,HCL2.out,u1];rfl)
    go_wp2_with fail
    go_roundw
    case rel=>exact⟨i+1,by omega,by go_num,HN.out,HB5.out⟩
    case measure=>simp[intOf];omega
  ·have hge:n2≤i:=by omega
   have HALL:Hid (C.any (chLate X)=false):=hid (by
    have h:=HANY.out
    rw[List.take_of_length_le (by rw[HCL.out];exact hge)] at h
    exact h)
   clear HANY
   have m0:=(hb.cell (p:=⟨g,0,none⟩) hgs).trans HM0.out
   go_wp2_with fail
   go_loopw [8,9,40] (fun _ _ s wx=>∃ j:Nat,j≤n1∧s=.int .i64 j∧shortF X 0 (P.take j)=false∧Below W.heap.size W wx) (fun _ _ s _=>n1 - (intOf s).toNat)
   case atStart=>exact⟨0,by omega,rfl,rfl,hb⟩
   case round =>
    obtain⟨j,hj,rfl,hsh,hb⟩:=hrel
    have HSH:=hid hsh
    clear hsh
    by_cases hlt:j < n1
    ·obtain⟨ad,x,rfl,had,hx,c0,ck⟩:=(hP0.on hb).at_ pcl_len (by omega) hlt
     have d0:=c0 _ rfl
     have d1:=ck 1 _ (by omega) rfl
     have d2:=ck 2 _ (by omega) rfl
     have d3:=ck 3 _ (by omega) rfl
     have d4:=ck 4 _ (by omega) rfl
     have d5:=ck 5 _ (by omega) rfl
     have d6:=ck 6 _ (by omega) rfl
     have d7:=ck 7 _ (by omega) rfl
     have d8:=ck 8 _ (by omega) rfl
     have d9:=ck 9 _ (by omega) rfl
     have d10:=ck 10 _ (by omega) rfl
     have hzx:=HZ.out x (List.mem_of_getElem? hx)
     have HSM:=hid (short_more (W:=X) hx)
     have HSE:=hid (short_mem (W:=X) hx)
     obtain⟨nm,bu,pe,sc,st,pa,pn,pc,h0,h1,h2,h3,h4⟩:=x
     dsimp only at d0 d1 d2 d3 d4 d5 d6 d7 d8 d9 d10 hzx
     have hbx:=bl1 wr (.cells #[.string nm,.int .i64 bu,.int .i64 pe,.bool sc,.bool st,.slice pa pn pc,.int .i64 h0,.int .i64 h1,.int .i64 h2,.int .i64 h3,.int .i64 h4] 57)
     have hb1:=hb.trans (hbx.mono hb.size)
     have f1:(wr.alloc (.cells #[.string nm,.int .i64 bu,.int .i64 pe,.bool sc,.bool st,.slice pa pn pc,.int .i64 h0,.int .i64 h1,.int .i64 h2,.int .i64 h3,.int .i64 h4] 57)).cell? ⟨wr.heap.size,1,none⟩=some (.int .i64 bu):=World.cell?_alloc_mark _ _ _ _ _
     have f2:(wr.alloc (.cells #[.string nm,.int .i64 bu,.int .i64 pe,.bool sc,.bool st,.slice pa pn pc,.int .i64 h0,.int .i64 h1,.int .i64 h2,.int .i64 h3,.int .i64 h4] 57)).cell? ⟨wr.heap.size,2,none⟩=some (.int .i64 pe):=World.cell?_alloc_mark _ _ _ _ _
     have hgx:wr.heap.size < (wr.alloc (.cells #[.string nm,.int .i64 bu,.int .i64 pe,.bool sc,.bool st,.slice pa pn pc,.int .i64 h0,.int .i64 h1,.int .i64 h2,.int .i64 h3,.int .i64 h4] 57)).heap.size:=by simp
     clear c0 ck hx hbx
     go_wp2_with fail
     generalize wr.alloc (.cells #[.string nm,.int .i64 bu,.int .i64 pe,.bool sc,.bool st,.slice pa pn pc,.int .i64 h0,.int .i64 h1,.int .i64 h2,.int .i64 h3,.int .i64 h4] 57)=W2 at hb1 f1 f2 hgx ⊢
     generalize wr.heap.size=gx at f1 f2 hgx ⊢
     have HB1:=hid hb1
     clear d0 d1 d2 d3 d4 d5 d6 d7 d8 d9 d10 hb1 had
     by_cases hbu:0 < bu
     ·have hbd:decide (0 < bu)=true:=decide_eq_true hbu
      have HBG:Hid (Calls Tryz.prog 43 #[.slice A4 n4 c4,.int .i64 (j:Int),.int .i64 pe] W2.drew fun e w5=>e=.returned (.int .i64 (budL (wordsL L) (j:Int) pe))∧Below W2.heap.size W2 w5∧w5.cell? ⟨gx,1,none⟩=some (.int .i64 bu)∧w5.cell? ⟨gx,2,none⟩=some (.int .i64 pe)):=hid (by
       refine(budget_any A4 n4 c4 L (j:Int) pe W2.drew ((hL0.on HB1.out).below (Below.refl _ _).drew) q4 q5 ht hzx).mono ?_
       rintro e w5⟨rfl,hb5⟩
       have hb6:Below W2.heap.size W2 w5:=⟨hb5.os,hb5.tape,hb5.output,hb5.size,hb5.block⟩
       exact⟨rfl,hb6,(hb6.cell (p:=⟨gx,1,none⟩) hgx).trans f1,(hb6.cell (p:=⟨gx,2,none⟩) hgx).trans f2⟩)
      rw[← HX.out] at HBG
      have hps:ptShort X j ⟨nm,bu,pe,sc,st,pa,pn,pc,h0,h1,h2,h3,h4⟩=(decide (0 < bu) && decide (budL X (j:Int) pe < bu)):=rfl
      generalize budL X (j:Int) pe=z at HBG hps
      rw[hbd,Bool.true_and] at hps
      have HPS:=hid hps
      clear hps
      go_region_with (go_at_call 43;refine HBG.out.mono ?_;rintro e w5⟨rfl,hb5,g1,g2⟩)
      all_goals
       by_cases t2:z < bu
       ·have u2:decide (z < bu)=true:=decide_eq_true t2
        have hres:R=20:=by
         rw[HR.out]
         exact holdsF_short HALL.out (HSE.out (by rw[HPS.out];exact u2))
        subst hres
        go_wp2_with fail
        go_ret
        exact Ans.mk rfl (hb0.trans ((HB1.out.trans (hb5.mono HB1.out.size)).mono hb0.size))
       ·have u2:decide (z < bu)=false:=decide_eq_false t2
        have HN:Hid (shortF X 0 (P.take (j+1))=false):=hid (by rw[HSM.out,HSH.out,HPS.out,u2];rfl)
        go_wp2_with fail
        go_roundw
        case rel=>exact⟨j+1,by omega,by go_num,HN.out,HB1.out.trans (hb5.mono HB1.out.size)⟩
        case measure=>simp[intOf];omega
     ·have hbd:decide (0 < bu)=false:=decide_eq_false hbu
      have hps:ptShort X j ⟨nm,bu,pe,sc,st,pa,pn,pc,h0,h1,h2,h3,h4⟩=(decide (0 < bu) && decide (budL X (j:Int) pe < bu)):=rfl
      rw[hbd,Bool.false_and] at hps
      have HN:Hid (shortF X 0 (P.take (j+1))=false):=hid (by rw[HSM.out,HSH.out,hps];rfl)
      clear hps
      go_quiet (fail)
      go_wp2_with fail
      go_roundw
      case rel=>exact⟨j+1,by omega,by go_num,HN.out,Below.drewN HB1.out nq⟩
      case measure=>simp[intOf];omega
    ·have hge:n1≤j:=by omega
     have hres:R=0:=by
      rw[HR.out]
      refine holdsF_ok HALL.out ?_
      have h:=HSH.out
      rw[List.take_of_length_le (by rw[HPL.out];exact hge)] at h
      exact h
     subst hres
     go_wp2_with fail
     go_ret
     exact Ans.mk rfl (hb0.trans (hb.mono hb0.size))
end Go.Proofs.YtdkngfdnfekgfaaGreat
