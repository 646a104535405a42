import Derived.Test.YtfddpnhaejkacaaGreatLow3
import Derived.Test.YtfddpnhaejkacaaGreatLow6
import Derived.Test.YtfddpnhaejkacaaGreatLow4
import Derived.Test.YtfddpnhaejkacaaGreatLow2
import Derived.Test.YtfddpnhaejkacaaGreatLow5
import Derived.IntWalk
import Derived.BigQuiet
import Derived.Deep.CutRange
set_option linter.unusedSimpArgs false
set_option linter.unusedVariables false
namespace Go.Proofs.YtfddpnhaejkacaaGreat
open Go Go.RowKit
namespace Rgs
open Reg (waits writes left left_set all_listed Closed)
def good (ops:Array Oper) (n:Nat):Bool :=
 (List.range ops.size).all fun i=>match ops[i]? with
  | some o=>(match o.dst with
    | some d=>decide (d < n) && (List.range ops.size).all fun j=>j == i || (match ops[j]? with | some p=>!(p.dst == some d) | none=>true)
    | none=>true) && o.after.toList.all fun e=>!Region.binds .any e || decide (e.on < i)
  | none=>false
theorem good_at {ops:Array Oper} {n:Nat} (h:good ops n=true) {i:Nat} {o:Oper} (hi:ops[i]? = some o) :
  (∀ d,o.dst=some d→d < n∧∀ j p,ops[j]? = some p→j≠i→p.dst≠some d)∧∀ e∈o.after,Region.binds .any e=true→e.on < i:=by
 have hlt:i < ops.size:=(Array.getElem?_eq_some_iff.1 hi).1
 have h1:=List.all_eq_true.1 h i (List.mem_range.2 hlt)
 rw[hi] at h1
 simp only[Bool.and_eq_true] at h1
 obtain⟨h2,h3⟩:=h1
 refine⟨fun d hd=>?_,fun e he hbd=>?_⟩
 ·rw[hd] at h2
  simp only[Bool.and_eq_true,decide_eq_true_iff] at h2
  refine⟨h2.1,fun j p hj hne=>?_⟩
  have hjl:j < ops.size:=(Array.getElem?_eq_some_iff.1 hj).1
  have h4:=List.all_eq_true.1 h2.2 j (List.mem_range.2 hjl)
  rw[hj] at h4
  simp only[Bool.or_eq_true,beq_iff_eq,Bool.not_eq_true',beq_eq_false_iff_ne] at h4
  exact h4.resolve_left hne
 ·have:=List.all_eq_true.1 h3 e (Array.mem_toList_iff.2 he)
  rw[hbd] at this
  simpa using this
def upd (live:Nat→Bool) (i:Nat):Nat→Bool:=fun j=>j == i || live j
structure Inv (ops:Array Oper) (a0:Act) (V:Nat→Value→World→Prop) (W:(Nat→Bool)→Act→World→Prop) (listed:Array Bool) (a:Act) (w:World):Prop where
 size:a.tmps.size=a0.tmps.size
 defers:a.defers=a0.defers
 env:∀ t,writes ops t=false→a.eval (.tmp t)=a0.eval (.tmp t)
 val:∀ j o,ops[j]? = some o→listed.getD j false=true→∃ v,V j v w∧∀ d,o.dst=some d→a.eval (.tmp d)=v
 world:W (fun j=>listed.getD j false) a w
 closed:Closed ops fun j=>listed.getD j false
def Owes (live:Nat→Bool) (V:Nat→Value→World→Prop) (W:(Nat→Bool)→Act→World→Prop) (i:Nat) (o:Oper) (a:Act) (w:World) (a':Act) (w':World):Prop :=
 ∃ v,a'=a.put o.dst v∧V i v w'∧W (upd live i) (a.put o.dst v) w'∧∀ j v,live j=true→V j v w→V j v w'
theorem live_set {listed:Array Bool} {i:Nat} (hi:i < listed.size):(fun j=>(listed.setIfInBounds i true).getD j false)=upd (fun j=>listed.getD j false) i:=by
 funext j
 unfold upd
 by_cases h:j=i
 ·subst h
  simp[hi]
 ·rw[getD_set_ne false (Ne.symm h)]
  simp[h]
theorem upd_off {live:Nat→Bool} {i k:Nat} (h:upd live i k=false):live k=false:=by
 unfold upd at h
 cases e:live k with
 | false=>rfl
 | true=>rw[e] at h;simp at h
theorem upd_self (live:Nat→Bool) (i:Nat):upd live i i=true:=by simp[upd]
theorem put_none (a:Act) (v:Value):a.put none v=a:=rfl
theorem Inv.step {ops:Array Oper} {a0:Act} {V:Nat→Value→World→Prop} {W:(Nat→Bool)→Act→World→Prop} {listed:Array Bool} {a a':Act} {w w':World} (hg:good ops a0.tmps.size=true)
  {i:Nat} {o:Oper} (hi:ops[i]? = some o) (hil:i < listed.size) (h:Inv ops a0 V W listed a w) (hr:∀ k,waits o k=true→listed.getD k false=true) (hs:Owes (fun j=>listed.getD j false) V W i o a w a' w'):Inv ops a0 V W (listed.setIfInBounds i true) a' w':=by
 obtain⟨v,rfl,hv,hw,hm⟩:=hs
 obtain⟨hgd,_⟩:=good_at hg hi
 have hcl:Closed ops fun j=>(listed.setIfInBounds i true).getD j false:=fun j p hj hl k hk=>by
  by_cases hji:j=i
  ·subst hji
   rw[hi] at hj
   injection hj with hj
   subst hj
   exact getD_set_true (hr k hk)
  ·have hl':(listed.setIfInBounds i true).getD j false=true:=hl
   rw[getD_set_ne false (Ne.symm hji)] at hl'
   exact getD_set_true (h.closed j p hj hl' k hk)
 cases hd:o.dst with
 | none =>
  rw[hd] at hw
  rw[put_none] at hw ⊢
  refine⟨h.size,h.defers,h.env,fun j p hj hl=>?_,by rw[live_set hil];exact hw,hcl⟩
  by_cases hji:j=i
  ·subst hji
   rw[hi] at hj
   injection hj with hj
   subst hj
   exact⟨v,hv,fun d e=>by rw[hd] at e;cases e⟩
  ·rw[getD_set_ne false (Ne.symm hji)] at hl
   obtain⟨u,hu,he⟩:=h.val j p hj hl
   exact⟨u,hm j u hl hu,he⟩
 | some d =>
  rw[hd] at hw
  obtain⟨hdn,hdist⟩:=hgd d hd
  have hsz:d < a.tmps.size:=by rw[h.size];exact hdn
  refine⟨by simp[Act.put,h.size],by simp[Act.put,h.defers],fun t ht=>?_,fun j p hj hl=>?_,by rw[live_set hil];exact hw,hcl⟩
  ·have hne:d≠t:=by
    rintro rfl
    have:writes ops d=true:=List.any_eq_true.2 ⟨o,Array.mem_toList_iff.2 (Array.mem_of_getElem? hi),by simp[hd]⟩
    rw[this] at ht;cases ht
   rw[Reg.eval_other _ _ _ _ hne];exact h.env t ht
  ·by_cases hji:j=i
   ·subst hji
    rw[hi] at hj
    injection hj with hj
    subst hj
    exact⟨v,hv,fun d' e=>by rw[hd] at e;injection e with e;subst e;exact Reg.eval_same _ _ _ hsz⟩
   ·rw[getD_set_ne false (Ne.symm hji)] at hl
    obtain⟨u,hu,he⟩:=h.val j p hj hl
    refine⟨u,hm j u hl hu,fun d' e=>?_⟩
    rw[Reg.eval_other _ _ _ _ fun e2=>hdist j p hj hji (by rw[e,e2])]
    exact he d' e
theorem all_live {ops:Array Oper} {n:Nat} (hg:good ops n=true) {listed:Array Bool} (hs:listed.size=ops.size) (hr:Region.ready .any ops listed=[]) :
  ∀ j,j < ops.size→listed.getD j false=true:=by
 intro j
 induction j using Nat.strongRecOn with
 | ind j ih =>
  intro hj
  have hjl:j < listed.size:=by omega
  cases hb:listed.getD j false with
  | true=>rfl
  | false =>
   have hb':listed.getD j true=false:=by
    simpa [hjl] using hb
   obtain⟨o,ho⟩:∃ o,ops[j]? = some o:=⟨_,Array.getElem?_eq_getElem hj⟩
   obtain⟨_,hacy⟩:=good_at hg ho
   have:j∈Region.ready .any ops listed:=mem_ready.2 ⟨hb',o,ho,fun e he hbd=>ih e.on (hacy e he hbd) (by have:=hacy e he hbd;omega)⟩
   rw[hr] at this;cases this
def Goal (P:Program) (ops:Array Oper) (Q:Exit→Act→World→Prop) (V:Nat→Value→World→Prop) (W:(Nat→Bool)→Act→World→Prop) (live:Nat→Bool) (i:Nat) (o:Oper) (a:Act) (w:World):Prop :=
 wpOp P ops Q i (Owes live V W i o a w) a w
def Step (P:Program) (ops:Array Oper) (Q:Exit→Act→World→Prop) (a0:Act) (V:Nat→Value→World→Prop) (W:(Nat→Bool)→Act→World→Prop) (i:Nat) (o:Oper):Prop :=
 ∀(a:Act) (w:World) (live:Nat→Bool),a.tmps.size=a0.tmps.size→(∀ t,writes ops t=false→a.eval (.tmp t)=a0.eval (.tmp t)) →
  (∀ j,waits o j=true→∀ p d,ops[j]? = some p→p.dst=some d→V j (a.eval (.tmp d)) w)→Closed ops live→live i=false→(∀ k,waits o k=true→live k=true)→W live a w→Goal P ops Q V W live i o a w
def Steps (P:Program) (ops:Array Oper) (Q:Exit→Act→World→Prop) (a0:Act) (V:Nat→Value→World→Prop) (W:(Nat→Bool)→Act→World→Prop):Prop :=
 ∀ i o,ops[i]? = some o→Step P ops Q a0 V W i o
theorem any_of {P:Program} {ops:Array Oper} {Q:Exit→Act→World→Prop} {a0:Act} {V:Nat→Value→World→Prop} {W:(Nat→Bool)→Act→World→Prop} (hg:good ops a0.tmps.size=true) (hst:Steps P ops Q a0 V W)
  (hend:∀ listed a w,Inv ops a0 V W listed a w→(∀ j,j < ops.size→listed.getD j false=true)→Q .normal a w) :
  ∀(fuel:Nat) (listed:Array Bool) (a:Act) (w:World),listed.size=ops.size→left listed≤fuel→Inv ops a0 V W listed a w→wpAny P .any ops Q fuel listed a w:=by
 intro fuel
 induction fuel with
 | zero =>
  intro listed a w hs hl h
  have hr:Region.ready .any ops listed=[]:=by
   cases hc:Region.ready .any ops listed with
   | nil=>rfl
   | cons i r =>
    have hi:i∈Region.ready .any ops listed:=by rw[hc];exact List.mem_cons_self
    have:=left_set (mem_ready.1 hi).1
    omega
  exact⟨hr,hend listed a w h (all_live hg hs hr)⟩
 | succ fuel ih =>
  intro listed a w hs hl h
  refine⟨fun hr=>hend listed a w h (all_live hg hs hr),fun i hi=>?_⟩
  obtain⟨h0,o,ho,hall⟩:=mem_ready.1 hi
  have hi':i < ops.size:=(Array.getElem?_eq_some_iff.1 ho).1
  have hlt:i < listed.size:=by omega
  have hwait:∀ k,waits o k=true→k < i∧listed.getD k false=true:=fun k hk=>by
   obtain⟨e,he,heq⟩:=List.any_eq_true.1 hk
   have he:=Array.mem_toList_iff.1 he
   simp only[Bool.and_eq_true,beq_iff_eq] at heq
   obtain⟨rfl,hb⟩:=heq
   obtain⟨_,hacy⟩:=good_at hg ho
   exact⟨hacy e he hb,hall e he hb⟩
  have hstep:=hst i o ho a w (fun j=>listed.getD j false) h.size h.env (fun j hj p d hp hd=>by
   obtain⟨v,hv,he⟩:=h.val j p hp (hwait j hj).2
   rw[he d hd]
   exact hv) h.closed (by simpa [hlt] using h0) (fun k hk=>(hwait k hk).2) h.world
  refine wpOp_mono (fun a' w' hw=>?_) hstep
  refine ih _ a' w' (by simpa using hs) ?_ (h.step hg ho hlt (fun k hk=>(hwait k hk).2) hw)
  have:=left_set h0
  omega
theorem region {P:Program} {id:Nat} {ops:Array Oper} {Q:Exit→Act→World→Prop} {a0:Act} {w0:World} (hm:P.follows .mixedOrders=true) (hg:good ops a0.tmps.size=true) (V:Nat→Value→World→Prop) (W:(Nat→Bool)→Act→World→Prop)
  (hW:W (fun _=>false) a0 w0.drew) (hst:Steps P ops Q a0 V W)
  (hend:∀ a w live,a.tmps.size=a0.tmps.size→a.defers=a0.defers→(∀ t,writes ops t=false→a.eval (.tmp t)=a0.eval (.tmp t))→(∀ j p,ops[j]? = some p→∃ v,V j v w∧∀ d,p.dst=some d→a.eval (.tmp d)=v)→(∀ j,j < ops.size→live j=true)→W live a w→Q .normal a w) :
  (Code.region id ops true).wp P Q a0 w0:=by
 refine wp_region_any hm ?_
 have hfalse:(fun j=>(Array.replicate ops.size false).getD j false)=fun _=>false:=by
  funext j
  by_cases hj:j < ops.size <;> simp[hj]
 refine any_of hg hst (fun listed a w h hall=>hend a w (fun j=>listed.getD j false) h.size h.defers h.env (fun j p hj=>h.val j p hj (hall j (Array.getElem?_eq_some_iff.1 hj).1)) hall h.world) ops.size (Array.replicate ops.size false) a0 w0.drew (by simp) ?_ ?_
 ·unfold left
  have:=List.countP_le_length (p:=(· == false)) (l:=(Array.replicate ops.size false).toList)
  simpa using this
 ·refine⟨rfl,rfl,fun _ _=>rfl,fun j p hj hl=>?_,by rw[hfalse];exact hW,fun j p hj hl k hk=>?_⟩
  ·have hjl:j < ops.size:=(Array.getElem?_eq_some_iff.1 hj).1
   simp[hjl] at hl
  ·have hjl:j < ops.size:=(Array.getElem?_eq_some_iff.1 hj).1
   have hl':(Array.replicate ops.size false).getD j false=true:=hl
   simp[hjl] at hl'
theorem steps_of {P:Program} {l:List Oper} {Q:Exit→Act→World→Prop} {a0:Act} {V:Nat→Value→World→Prop} {W:(Nat→Bool)→Act→World→Prop}
  (h:Reg.All (fun i o=>Step P l.toArray Q a0 V W i o) 0 l):Steps P l.toArray Q a0 V W:=by
 intro i o hi
 have:=Reg.All.get l 0 h i o (by simpa using hi)
 rwa [Nat.zero_add] at this
section
variable {P:Program} {ops:Array Oper} {Q:Exit→Act→World→Prop} {V:Nat→Value→World→Prop} {W:(Nat→Bool)→Act→World→Prop} {live:Nat→Bool} {i:Nat} {o:Oper} {a:Act} {w:World}
theorem val (hi:ops[i]? = some o) (hw:Region.wanted o (yielded ops a.tmps)=true) (v:Value) (hr:(execOp a.eval o).run P w=.ok (.value v) w) (hv:V i v w) (hW:W (upd live i) (a.put o.dst v) w):Goal P ops Q V W live i o a w:=by
 unfold Goal wpOp
 rw[hi]
 simp only[hw,if_true]
 refine .inl ?_
 unfold Oper.wp
 rw[hr]
 exact⟨v,rfl,hv,hW,fun _ _ _ h=>h⟩
theorem grow (hi:ops[i]? = some o) (hw:Region.wanted o (yielded ops a.tmps)=true) (v:Value) (w':World) (hr:(execOp a.eval o).run P w=.ok (.value v) w') (hv:V i v w') (hW:W (upd live i) (a.put o.dst v) w')
  (hm:∀ j v,live j=true→V j v w→V j v w'):Goal P ops Q V W live i o a w:=by
 unfold Goal wpOp
 rw[hi]
 simp only[hw,if_true]
 refine .inl ?_
 unfold Oper.wp
 rw[hr]
 exact⟨v,rfl,hv,hW,hm⟩
theorem store (hi:ops[i]? = some o) (hw:Region.wanted o (yielded ops a.tmps)=true) (w':World) (hr:(execOp a.eval o).run P w=.ok .skip w') (hv:V i undef w') (hW:W (upd live i) (a.put o.dst undef) w')
  (hm:∀ j v,live j=true→V j v w→V j v w'):Goal P ops Q V W live i o a w:=by
 unfold Goal wpOp
 rw[hi]
 simp only[hw,if_true]
 refine .inl ?_
 unfold Oper.wp
 rw[hr]
 exact⟨undef,rfl,hv,hW,hm⟩
theorem call (hi:ops[i]? = some o) (hw:Region.wanted o (yielded ops a.tmps)=true) (f:FuncId) (args:Array Value) (hr:(execOp a.eval o).run P w=.ok (.enter f args) w)
  (hc:Calls P f args w fun e w'=>∃ v,e=.returned v∧V i v w'∧W (upd live i) (a.put o.dst v) w'∧∀ j v,live j=true→V j v w→V j v w'):Goal P ops Q V W live i o a w:=by
 unfold Goal wpOp
 rw[hi]
 simp only[hw,if_true]
 refine .inl ?_
 unfold Oper.wp
 rw[hr]
 refine hc.mono fun e w' he=>?_
 obtain⟨v,rfl,h1,h2,h3⟩:=he
 exact⟨v,rfl,h1,h2,h3⟩
theorem skip (hi:ops[i]? = some o) (hw:Region.wanted o (yielded ops a.tmps)=false) (hv:V i undef w) (hW:W (upd live i) (a.put o.dst undef) w):Goal P ops Q V W live i o a w:=by
 unfold Goal wpOp
 rw[hi]
 simp only[hw]
 exact⟨undef,rfl,hv,hW,fun _ _ _ h=>h⟩
end
theorem wanted_not {ops:Array Oper} {o:Oper} {a:Act} {g:Nat} {want b:Bool} (h:o.guard=some (g,want)) {t:Tmp} (ht:(ops[g]?).bind (·.dst)=some t) (hv:a.eval (.tmp t)=.bool b) (hb:(b == want)=false):Region.wanted o (yielded ops a.tmps)=false:=by
 have hlt:t < a.tmps.size:=by
  rcases Nat.lt_or_ge t a.tmps.size with h' | h'
  ·exact h'
  ·simp[Act.eval,Array.getElem?_eq_none h',undef] at hv
 have h2:a.tmps[t]? = some (.bool b):=by
  simpa [Act.eval,hlt] using hv
 simp only[Region.wanted,h,yielded,ht,Option.bind_some,h2]
 have:b≠want:=by simpa using hb
 simp[this]
theorem wanted_undef {ops:Array Oper} {o:Oper} {a:Act} {g:Nat} {want:Bool} (h:o.guard=some (g,want)) {t:Tmp} (ht:(ops[g]?).bind (·.dst)=some t) (hv:a.eval (.tmp t)=undef):Region.wanted o (yielded ops a.tmps)=false:=by
 have h2:∀ b,a.tmps[t]?≠some (.bool b):=fun b e=>by
  simp[Act.eval,e,undef] at hv
 simp only[Region.wanted,h,yielded,ht,Option.bind_some]
 rfl
theorem foldl_set (g:Nat→Value) (ws:List Nat):∀ arr:Array Value,(ws.foldl (fun r t=>r.setIfInBounds t (g t)) arr).size=arr.size∧∀ t,t < arr.size→(ws.foldl (fun r t=>r.setIfInBounds t (g t)) arr)[t]? = if t∈ws then some (g t) else arr[t]?:=by
 induction ws with
 | nil=>intro arr;exact⟨rfl,fun t _=>by simp⟩
 | cons x ws ih =>
  intro arr
  rw[List.foldl_cons]
  obtain⟨h1,h2⟩:=ih (arr.setIfInBounds x (g x))
  refine⟨by rw[h1];simp,fun t ht=>?_⟩
  rw[h2 t (by simpa using ht)]
  by_cases hm:t∈ws
  ·rw[if_pos hm,if_pos (List.mem_cons_of_mem _ hm)]
  ·rw[if_neg hm]
   by_cases hx:t=x
   ·subst hx
    rw[if_pos List.mem_cons_self]
    simp[ht]
   ·rw[if_neg (by simp[hx,hm]),Array.getElem?_setIfInBounds_ne (Ne.symm hx)]
theorem act_ws {ops:Array Oper} (a:Act) (T:Array Value) (dl:List Deferred) (hs:a.tmps.size=T.size) (hd:a.defers=dl) (E:∀ t,writes ops t=false→a.eval (.tmp t)=(Act.mk T dl).eval (.tmp t)) (ws:List Nat)
  (hw:((List.range T.size).all fun t=>!writes ops t || ws.contains t)=true):a=⟨ws.foldl (fun r t=>r.setIfInBounds t (a.eval (.tmp t))) T,dl⟩:=by
 obtain⟨h1,h2⟩:=foldl_set (fun t=>a.eval (.tmp t)) ws T
 obtain⟨tmps,defers⟩:=a
 simp only at hs hd
 subst hd
 congr 1
 apply Array.ext_getElem?
 intro t
 by_cases ht:t < T.size
 ·rw[h2 t ht]
  have hta:tmps[t]? = some ((Act.mk tmps defers).eval (.tmp t)):=by
   have:t < tmps.size:=by omega
   simp[Act.eval,this]
  by_cases hm:t∈ws
  ·rw[if_pos hm,hta]
  ·rw[if_neg hm,hta]
   have hnw:writes ops t=false:=by
    have:=List.all_eq_true.1 hw t (List.mem_range.2 ht)
    simp only[Bool.or_eq_true,Bool.not_eq_true'] at this
    rcases this with h | h
    ·exact h
    ·exact absurd (List.contains_iff_mem.1 h) hm
   rw[E t hnw]
   simp[Act.eval,ht]
 ·rw[Array.getElem?_eq_none (by omega),Array.getElem?_eq_none (by rw[h1];omega)]
def StW (w0:World) (N:Nat) (p:Addr) (v:Value) (live:Nat→Bool) (w:World):Prop:=w=if live N=true then w0.setCell p v else w0
section
variable {w0 w:World} {N i:Nat} {p:Addr} {v:Value} {live:Nat→Bool}
theorem StW.off (h:StW w0 N p v live w) (hl:live N=false):w=w0:=by unfold StW at h;rw[hl] at h;exact h
theorem StW.upd (h:StW w0 N p v live w) (hi:i≠N):StW w0 N p v (upd live i) w:=by
 have e:Rgs.upd live i N=live N:=by unfold Rgs.upd;simp[Ne.symm hi]
 unfold StW at h ⊢
 rw[e];exact h
theorem StW.put (w0:World) (N:Nat) (p:Addr) (v:Value) (live:Nat→Bool):StW w0 N p v (Rgs.upd live N) (w0.setCell p v):=by
 unfold StW
 rw[upd_self];rfl
theorem StW.on (h:StW w0 N p v live w) (hl:live N=true):w=w0.setCell p v:=by unfold StW at h;rw[hl] at h;exact h
end
def StW2 (w0:World) (N M:Nat) (p q:Addr) (u v:Value) (live:Nat→Bool) (w:World):Prop:=w=if live M=true then (w0.setCell p u).setCell q v else if live N=true then w0.setCell p u else w0
section
variable {w0 w:World} {N M i:Nat} {p q:Addr} {u v:Value} {live:Nat→Bool}
theorem StW2.any (h:StW2 w0 N M p q u v live w):w=w0∨w=w0.setCell p u∨w=(w0.setCell p u).setCell q v:=by
 unfold StW2 at h
 split at h
 ·exact .inr (.inr h)
 ·split at h
  ·exact .inr (.inl h)
  ·exact .inl h
theorem StW2.upd (h:StW2 w0 N M p q u v live w) (h1:i≠N) (h2:i≠M):StW2 w0 N M p q u v (upd live i) w:=by
 have e1:Rgs.upd live i N=live N:=by unfold Rgs.upd;simp[Ne.symm h1]
 have e2:Rgs.upd live i M=live M:=by unfold Rgs.upd;simp[Ne.symm h2]
 unfold StW2 at h ⊢
 rw[e1,e2];exact h
theorem StW2.off (h:StW2 w0 N M p q u v live w) (h1:live N=false) (h2:live M=false):w=w0:=by unfold StW2 at h;rw[h1,h2] at h;exact h
theorem StW2.mid (h:StW2 w0 N M p q u v live w) (h1:live N=true) (h2:live M=false):w=w0.setCell p u:=by unfold StW2 at h;rw[h1,h2] at h;exact h
theorem StW2.on (h:StW2 w0 N M p q u v live w) (h2:live M=true):w=(w0.setCell p u).setCell q v:=by unfold StW2 at h;rw[h2] at h;exact h
theorem StW2.put1 (w0:World) (hMN:M≠N) (p q:Addr) (u v:Value) (live:Nat→Bool) (h2:live M=false):StW2 w0 N M p q u v (Rgs.upd live N) (w0.setCell p u):=by
 unfold StW2
 have e2:Rgs.upd live N M=false:=by unfold Rgs.upd;simp[hMN,h2]
 rw[upd_self,e2];rfl
theorem StW2.put2 (w0:World) (N M:Nat) (p q:Addr) (u v:Value) (live:Nat→Bool):StW2 w0 N M p q u v (Rgs.upd live M) ((w0.setCell p u).setCell q v):=by
 unfold StW2
 rw[upd_self];rfl
end
def StG (w0 w1 w2:World) (N M:Nat) (live:Nat→Bool) (w:World):Prop:=w=if live M=true then w2 else if live N=true then w1 else w0
section
variable {w0 w1 w2 w:World} {N M i:Nat} {live:Nat→Bool}
theorem StG.upd (h:StG w0 w1 w2 N M live w) (h1:i≠N) (h2:i≠M):StG w0 w1 w2 N M (Rgs.upd live i) w:=by
 have e1:Rgs.upd live i N=live N:=by unfold Rgs.upd;simp[Ne.symm h1]
 have e2:Rgs.upd live i M=live M:=by unfold Rgs.upd;simp[Ne.symm h2]
 unfold StG at h ⊢
 rw[e1,e2];exact h
theorem StG.off (h:StG w0 w1 w2 N M live w) (h1:live N=false) (h2:live M=false):w=w0:=by unfold StG at h;rw[h1,h2] at h;exact h
theorem StG.mid (h:StG w0 w1 w2 N M live w) (h1:live N=true) (h2:live M=false):w=w1:=by unfold StG at h;rw[h1,h2] at h;exact h
theorem StG.on (h:StG w0 w1 w2 N M live w) (h2:live M=true):w=w2:=by unfold StG at h;rw[h2] at h;exact h
theorem StG.put1 (w0 w1 w2:World) (hMN:M≠N) (live:Nat→Bool) (h2:live M=false):StG w0 w1 w2 N M (Rgs.upd live N) w1:=by
 unfold StG
 have e2:Rgs.upd live N M=false:=by unfold Rgs.upd;simp[hMN,h2]
 rw[upd_self,e2];rfl
theorem StG.put2 (w0 w1 w2:World) (N M:Nat) (live:Nat→Bool):StG w0 w1 w2 N M (Rgs.upd live M) w2:=by
 unfold StG
 rw[upd_self];rfl
end
end Rgs
end Go.Proofs.YtfddpnhaejkacaaGreat
namespace Go.Proofs.YtfddpnhaejkacaaGreat
open Go.RowKit Tab
open Lib (hid)
def rcl (x:Rn):List Value:=[.int .i64 x.p,.int .i64 (x.n:Int)]
theorem rcl_len (x:Rn):(rcl x).length=2:=rfl
theorem rs_flat (L:List Rn):rs L=L.flatMap rcl:=by
 induction L with
 | nil=>rfl
 | cons x L ih=>rw[List.flatMap_cons,← ih];rfl
theorem OwnB.cellK {α:Type} {E s:Nat} {f:α→List Value} {w:World} {B g n c:Nat} {l:List α} (h:OwnB E s f w B (some ⟨g,0,none⟩) n c l) (hf:∀ x,(f x).length=s) {i k:Nat} {x:α} {v:Value} (hx:l[i]? = some x) (hk:k < s) (hv:(f x)[k]? = some v):w.cell? ⟨g,i*s+k,none⟩=some v∧w.frozen? ⟨g,i*s+k,none⟩=false:=by
 have hi:i < l.length:=(List.getElem?_eq_some_iff.1 hx).1
 have h1:(i+1)*s≤l.length*s:=Nat.mul_le_mul_right _ hi
 rw[Nat.succ_mul] at h1
 refine⟨?_,World.ownsRow.frozenAt h.own _⟩
 rw[World.ownsRow.cellAt h.own (i*s+k) (by rw[← h.len];omega),flat_get hf l i k x hx hk]
 exact hv
theorem OwnB.putK {α:Type} {E s:Nat} {f:α→List Value} {w:World} {B g n c:Nat} {l:List α} (h:OwnB E s f w B (some ⟨g,0,none⟩) n c l) (hf:∀ x,(f x).length=s) {i k:Nat} {x y:α} {v:Value} (hx:l[i]? = some x) (hk:k < s) (hy:f y=(f x).set k v) :
  OwnB E s f (w.setCell ⟨g,i*s+k,none⟩ v) B (some ⟨g,0,none⟩) n c (l.set i y):=by
 have hi:i < l.length:=(List.getElem?_eq_some_iff.1 hx).1
 have h1:(i+1)*s≤l.length*s:=Nat.mul_le_mul_right _ hi
 rw[Nat.succ_mul] at h1
 refine⟨by rw[List.length_set];exact h.len,?_⟩
 rw[flat_set hf l i k x y v hx hk hy]
 refine h.own.set (i*s+k) v ?_
 rw[flat_len hf]
 omega
theorem OwnB.cellR {w:World} {B g n c:Nat} {X:List Rn} (h:OwnB 75 2 rcl w B (some ⟨g,0,none⟩) n c X) {i:Nat} {x:Rn} (hx:X[i]? = some x):w.cell? ⟨g,i*2,none⟩=some (.int .i64 x.p)∧w.cell? ⟨g,i*2+1,none⟩=some (.int .i64 (x.n:Int))∧w.frozen? ⟨g,i*2,none⟩=false∧w.frozen? ⟨g,i*2+1,none⟩=false:=by
 have h0:=OwnB.cellK h rcl_len (k:=0) hx (by omega) rfl
 have h1:=OwnB.cellK h rcl_len (k:=1) hx (by omega) rfl
 exact⟨h0.1,h1.1,h0.2,h1.2⟩
def TurR (L:List Rn) (w:World) (e:Ending) (w':World):Prop:=∃ A c X,e=.returned (.slice A L.length c)∧RdR w' w'.heap.size A L.length X∧L.length≤c∧X.Perm L∧Below w.heap.size w w'
theorem mv_ticks {L:List Rn} {i j:Nat} {x y:Rn} (hij:i < j) (hx:L[i]? = some x) (hy:L[j]? = some y) (right:Bool):ticks (mv L i j right)=ticks L:=by
 rw[mv_split hij hx hy]
 conv=>rhs;rw[split_far hij hx hy]
 have e:∀(X M Y:List Rn) (a b:Rn),ticks (X++a::(M++b::Y))=ticks X+(a.n+(ticks M+(b.n+ticks Y))):=fun X M Y a b=>by
  rw[ticks_append]
  simp only[ticks]
  rw[ticks_append]
  simp only[ticks]
 rw[e,e]
 cases right <;> simp <;> omega
def doZ (L:List Rn) (I J:Int) (right:Bool):List Rn:=if 0≤I∧I < J∧J < (L.length:Int) then tidy (mv L I.toNat J.toNat right) else L
def RowQ (L:List Rn) (w:World) (e:Ending) (w':World):Prop:=∃ A c,e=.returned (.slice A L.length c)∧RdR w' w'.heap.size A L.length L∧L.length≤c∧Below w.heap.size w w'
set_option maxRecDepth 100000 in
set_option maxHeartbeats 8000000 in
theorem rdo_any (A:Option Addr) (n c0:Nat) (L:List Rn) (I J:Int) (rt:Bool) (w:World) (h:RdR w w.heap.size A n L) (hc:n≤c0) (hn:n≤1048576) (ht:ticks L≤1099511627776) :
  Calls Tryz.prog 65 #[.slice A n c0,.agg #[.int .i64 I,.int .i64 J,.bool rt]] w (RowQ (doZ L I J rt) w):=by
 have hlen:=h.len
 have hb0:=bl1 w (.cells #[.int .i64 I,.int .i64 J,.bool rt] 108)
 have hv0:Vec (w.alloc (.cells #[.int .i64 I,.int .i64 J,.bool rt] 108)) w.heap.size 3 (fun q=>if q=0 then .int .i64 I else if q=1 then .int .i64 J else .bool rt):=Vec.lit w _ _ 3 _ fun q hq=>by
  rcases(by omega:q=0∨q=1∨q=2) with rfl | rfl | rfl <;> rfl
 have hP0:=h.on hb0
 obtain⟨R,hR⟩:∃ R,R=doZ L I J rt:=⟨_,rfl⟩
 have HLN:=hid hlen
 rw[← hR]
 have HR:=hid hR
 clear h hlen hR
 go_enter Tryz.func65,Tryz.ntmps65
 go_upto_region 1 with fail
 generalize w.alloc (.cells #[.int .i64 I,.int .i64 J,.bool rt] 108)=W at hb0 hv0 hP0 ⊢
 obtain⟨gm,hgm⟩:∃ gm,gm=w.heap.size:=⟨_,rfl⟩
 rw[← hgm] at hv0 ⊢
 have hgw:gm < W.heap.size:=hv0.lt
 have HGM:=hid hgm
 clear hgm
 have hbe:=bl1 W (.cells #[] 75)
 have hown0:OwnV 75 2 (W.alloc (.cells #[] 75)) W.heap.size (some ⟨W.heap.size,0,none⟩) 0 0 []:=ownV_lit W _ 2 W.heap.size #[] 0 rfl (Nat.le_refl _) (by unfold maxLen;omega)
 have hrd:=(hP0.on hbe).rd
 have hle:W.heap.size≤(W.alloc (.cells #[] 75)).heap.size:=hbe.size
 go_upto_region 2 with (at_builtin;go_loud (refine wpList_appV elR rfl (.tmp 6) (.tmp 7) rfl rfl W.heap.size (some ⟨W.heap.size,0,none⟩) 0 0 [] rfl hown0 A n c0 (rs L) _ rfl hrd (by rw[rs_length,HLN.out]) (rs_one _) (by omega) (by unfold maxLen;omega) hle n (Nat.zero_add _) (rs L) (List.nil_append _) ?_;intro A4 c4 wq hw4 hb4 hot4))
 have hbq:=hbe.trans hb4
 have HBQ:=hid (hb0.trans (hbq.mono hb0.size))
 have HOB:Hid (OwnB 75 2 rcl wq W.heap.size A4 n c4 L):=hid ⟨HLN.out,by rw[← rs_flat];exact hw4⟩
 have HVM:=hid (hv0.on hbq)
 obtain⟨c,rfl⟩:∃ c,c=c4:=⟨_,rfl⟩
 have hcap:n≤c:=HOB.out.cap
 clear hw4 hb4 hot4 hown0 hrd hle hbe hbq hb0 hv0 hP0
 have q0:=HVM.out.cell 0 (by omega)
 have q1:=HVM.out.cell 1 (by omega)
 have q2:=HVM.out.cell 2 (by omega)
 simp only[if_true,if_false,Nat.one_ne_zero,Nat.succ_ne_zero] at q0 q1 q2
 have q0':wq.cell? ⟨gm,0,none⟩=some (.int .i64 I):=q0
 have q1':wq.cell? ⟨gm,1,none⟩=some (.int .i64 J):=q1
 have q2':wq.cell? ⟨gm,2,none⟩=some (.bool rt):=q2
 clear q0 q1 q2
 have hself:¬ (0≤I∧I < J∧J < (n:Int))→RowQ R w (.returned (.slice A4 n c)) wq:=fun hno=>by
  have e:R=L:=by
   rw[HR.out]
   unfold doZ
   rw[HLN.out,if_neg hno]
  rw[e]
  have hl:=HLN.out
  subst hl
  exact⟨A4,c,rfl,⟨rfl,by rw[rs_flat];exact HOB.out.own.rd⟩,hcap,HBQ.out⟩
 have HSELF:=hid hself
 clear hself
 by_cases hI:I < 0
 ·have e0:decide (I < 0)=true:=decide_eq_true hI
  have HN:=hid (HSELF.out (by omega))
  go_wp2_with fail
  go_ret
  exact HN.out
 ·have e0:decide (I < 0)=false:=decide_eq_false hI
  by_cases hJ:J≤I
  ·have e1:decide (J≤I)=true:=decide_eq_true hJ
   have HN:=hid (HSELF.out (by omega))
   go_wp2_with fail
   go_ret
   exact HN.out
  ·have e1:decide (J≤I)=false:=decide_eq_false hJ
   by_cases hJn:(n:Int)≤J
   ·have e2:decide ((n:Int)≤J)=true:=decide_eq_true hJn
    have HN:=hid (HSELF.out (by omega))
    go_wp2_with fail
    go_ret
    exact HN.out
   ·have e2:decide ((n:Int)≤J)=false:=decide_eq_false hJn
    obtain⟨i,rfl⟩:∃ i:Nat,I=i:=⟨I.toNat,by omega⟩
    obtain⟨j,rfl⟩:∃ j:Nat,J=j:=⟨J.toNat,by omega⟩
    have hij:i < j:=by omega
    have hjn:j < n:=by omega
    obtain⟨x,hx⟩:∃ x,L[i]? = some x:=⟨_,List.getElem?_eq_getElem (by have:=HLN.out;omega)⟩
    obtain⟨y,hy⟩:∃ y,L[j]? = some y:=⟨_,List.getElem?_eq_getElem (by have:=HLN.out;omega)⟩
    obtain⟨g,rfl,hgW,_⟩:=HOB.out.block (by omega)
    have hBg:w.heap.size≤g:=by have:=HGM.out;omega
    have HOUT:Hid (∀ b e w',rt=b→RowQ (tidy (mv L i j b)) w e w'→RowQ R w e w'):=hid fun b e w' hb hq=>by
     subst hb
     have e:R=tidy (mv L i j rt):=by
      rw[HR.out]
      unfold doZ
      rw[HLN.out,if_pos (by omega)]
      rfl
     rw[e]
     exact hq
    have hxn:x.n≤ticks L:=mem_ticks (List.mem_of_getElem? hx)
    have hyn:y.n≤ticks L:=mem_ticks (List.mem_of_getElem? hy)
    have HSM:=hid fun W=>sum_any (y.n:Int) (x.n:Int) (y.n:Int) (x.n:Int) W (by omega) (by omega) (by omega) rfl rfl
    have HLT:Hid ((i:Int) < (n:Int)∧i < n∧(j:Int) < (n:Int)∧j < n):=hid ⟨by omega,by omega,by omega,by omega⟩
    clear HSELF hxn hyn
    cases rt with
    | true =>
     go_upto_region 5 with fail
     clear q0' q1' q2'
     have hmm:=HOB.out.below (w':=wq.drew) (Below.refl _ _).drew
     have cy:wq.drew.cell? ⟨g,j*2+1,none⟩=some (.int .i64 (y.n:Int)):=(hmm.cellR hy).2.1
     have cx:wq.drew.cell? ⟨g,i*2+1,none⟩=some (.int .i64 (x.n:Int)):=(hmm.cellR hx).2.1
     have e1:wq.drew.cell? ⟨g,j*2+1,none⟩=some (.int .i64 (y.n:Int)):=(hmm.cellR hy).2.1
     have e2:wq.drew.frozen? ⟨g,j*2+1,none⟩=false:=(hmm.cellR hy).2.2.2
     have hm1:=OwnB.putK hmm rcl_len (k:=1) (y:=⟨y.p,y.n+x.n⟩) hy (by omega) (v:=(.int .i64 ((y.n:Int)+(x.n:Int)))) rfl
     have h2x:(L.set j ⟨y.p,y.n+x.n⟩)[i]? = some x:=by rw[List.getElem?_set_ne (by omega)];exact hx
     have k1:(wq.drew.setCell ⟨g,j*2+1,none⟩ (.int .i64 ((y.n:Int)+(x.n:Int)))).cell? ⟨g,i*2+1,none⟩=some (.int .i64 (x.n:Int)):=(hm1.cellR h2x).2.1
     have k2:(wq.drew.setCell ⟨g,j*2+1,none⟩ (.int .i64 ((y.n:Int)+(x.n:Int)))).frozen? ⟨g,i*2+1,none⟩=false:=(hm1.cellR h2x).2.2.2
     have hm2:=OwnB.putK hm1 rcl_len (k:=1) (y:=⟨x.p,0⟩) h2x (by omega) (v:=(.int .i64 0)) rfl
     have hmv:(L.set j ⟨y.p,y.n+x.n⟩).set i ⟨x.p,0⟩=mv L i j true:=by
      unfold mv
      rw[hx,hy]
      rfl
     rw[hmv] at hm2
     have HFIN:=hid hm2
     have HBF:Hid (Below w.heap.size w ((wq.drew.setCell ⟨g,j*2+1,none⟩ (.int .i64 ((y.n:Int)+(x.n:Int)))).setCell ⟨g,i*2+1,none⟩ (.int .i64 0))):=hid ((HBQ.out.drew.setCell (p:=⟨g,j*2+1,none⟩) hBg _).setCell (p:=⟨g,i*2+1,none⟩) hBg _)
     have HFA:Hid (∀ wx,(wx=wq.drew∨wx=wq.drew.setCell ⟨g,j*2+1,none⟩ (.int .i64 ((y.n:Int)+(x.n:Int)))∨wx=(wq.drew.setCell ⟨g,j*2+1,none⟩ (.int .i64 ((y.n:Int)+(x.n:Int)))).setCell ⟨g,i*2+1,none⟩ (.int .i64 0))→wx.cell? ⟨gm,0,none⟩=some (.int .i64 (i:Int))∧wx.cell? ⟨gm,1,none⟩=some (.int .i64 (j:Int))):=hid fun wx hwx=>by
      have hvd:Vec wq.drew gm 3 _:=HVM.out.drewN 1
      have hgm:gm≠g:=by omega
      rcases hwx with rfl | rfl | rfl
      ·exact⟨hvd.cell 0 (by omega),hvd.cell 1 (by omega)⟩
      ·exact⟨(hvd.other ⟨g,j*2+1,none⟩ _ hgm).cell 0 (by omega),(hvd.other ⟨g,j*2+1,none⟩ _ hgm).cell 1 (by omega)⟩
      ·exact⟨((hvd.other ⟨g,j*2+1,none⟩ _ hgm).other ⟨g,i*2+1,none⟩ _ hgm).cell 0 (by omega),((hvd.other ⟨g,j*2+1,none⟩ _ hgm).other ⟨g,i*2+1,none⟩ _ hgm).cell 1 (by omega)⟩
     clear hmm hm1 hm2 hmv h2x
     go_wp2_with fail
     refine Rgs.region (by kernel_rfl) (by kernel_rfl) (fun(opn:Nat) (vl:Value) (_:World)=>match opn with | 0=>vl=.slice (some ⟨g,0,none⟩) n c | 1=>vl=.pointer (some ⟨gm,1,none⟩) | 2=>vl=.int .i64 (j:Int) | 3=>vl=.slice (some ⟨g,0,none⟩) n c | 4=>vl=.pointer (some ⟨gm,0,none⟩) | 5=>vl=.int .i64 (i:Int) | 6=>vl=.slice (some ⟨g,0,none⟩) n c | 7=>vl=.pointer (some ⟨gm,1,none⟩) | 8=>vl=.int .i64 (j:Int) | 9=>vl=.pointer (some ⟨g,j*2,none⟩) | 10=>vl=.pointer (some ⟨g,j*2+1,none⟩) | 11=>vl=.int .i64 (y.n:Int) | 12=>vl=.slice (some ⟨g,0,none⟩) n c | 13=>vl=.pointer (some ⟨gm,0,none⟩) | 14=>vl=.int .i64 (i:Int) | 15=>vl=.pointer (some ⟨g,i*2,none⟩) | 16=>vl=.pointer (some ⟨g,i*2+1,none⟩) | 17=>vl=.int .i64 (x.n:Int) | 18=>vl=.int .i64 ((y.n:Int)+(x.n:Int)) | 19=>vl=.pointer (some ⟨g,j*2,none⟩) | 20=>vl=.pointer (some ⟨g,j*2+1,none⟩) | 21=>vl=undef | 22=>vl=.pointer (some ⟨g,i*2,none⟩) | 23=>vl=.pointer (some ⟨g,i*2+1,none⟩) | 24=>vl=undef | _=>True) (fun live _ w'=>Rgs.StW2 wq.drew 21 24 ⟨g,j*2+1,none⟩ ⟨g,i*2+1,none⟩ (.int .i64 ((y.n:Int)+(x.n:Int))) (.int .i64 0) live w') rfl (Rgs.steps_of ?_) ?_
     ·refine⟨?_,?_,?_,?_,?_,?_,?_,?_,?_,?_,?_,?_,?_,?_,?_,?_,?_,?_,?_,?_,?_,?_,?_,?_,?_,trivial⟩ <;> intro a w1 live S E D C h0 hk hW
      ·have e5:a.eval (.tmp 5)=.slice (some ⟨g,0,none⟩) n c:=E 5 rfl
       exact Rgs.val rfl (Reg.wanted_free rfl) (.slice (some ⟨g,0,none⟩) n c) (by have c:=Reg.consts a;generalize a.eval=ρ at *;simp[execOp,go_sem,c.1,c.2,e5]) rfl (hW.upd (by decide) (by decide))
      ·have e3:a.eval (.tmp 3)=.pointer (some ⟨gm,0,none⟩):=E 3 rfl
       exact Rgs.val rfl (Reg.wanted_free rfl) (.pointer (some ⟨gm,1,none⟩)) (by have c:=Reg.consts a;generalize a.eval=ρ at *;simp[execOp,go_sem,c.1,c.2,e3]) rfl (hW.upd (by decide) (by decide))
      ·have d1:a.eval (.tmp 30)=.pointer (some ⟨gm,1,none⟩):=D 1 rfl _ _ rfl rfl
       have hc0:=(HFA.out w1 hW.any).2
       exact Rgs.val rfl (Reg.wanted_free rfl) (.int .i64 (j:Int)) (by have c:=Reg.consts a;generalize a.eval=ρ at *;simp[execOp,go_sem,c.1,c.2,d1,hc0]) rfl (hW.upd (by decide) (by decide))
      ·have e5:a.eval (.tmp 5)=.slice (some ⟨g,0,none⟩) n c:=E 5 rfl
       exact Rgs.val rfl (Reg.wanted_free rfl) (.slice (some ⟨g,0,none⟩) n c) (by have c:=Reg.consts a;generalize a.eval=ρ at *;simp[execOp,go_sem,c.1,c.2,e5]) rfl (hW.upd (by decide) (by decide))
      ·have e3:a.eval (.tmp 3)=.pointer (some ⟨gm,0,none⟩):=E 3 rfl
       exact Rgs.val rfl (Reg.wanted_free rfl) (.pointer (some ⟨gm,0,none⟩)) (by have c:=Reg.consts a;generalize a.eval=ρ at *;simp[execOp,go_sem,c.1,c.2,e3]) rfl (hW.upd (by decide) (by decide))
      ·have d4:a.eval (.tmp 33)=.pointer (some ⟨gm,0,none⟩):=D 4 rfl _ _ rfl rfl
       have hc0:=(HFA.out w1 hW.any).1
       exact Rgs.val rfl (Reg.wanted_free rfl) (.int .i64 (i:Int)) (by have c:=Reg.consts a;generalize a.eval=ρ at *;simp[execOp,go_sem,c.1,c.2,d4,hc0]) rfl (hW.upd (by decide) (by decide))
      ·have e5:a.eval (.tmp 5)=.slice (some ⟨g,0,none⟩) n c:=E 5 rfl
       exact Rgs.val rfl (Reg.wanted_free rfl) (.slice (some ⟨g,0,none⟩) n c) (by have c:=Reg.consts a;generalize a.eval=ρ at *;simp[execOp,go_sem,c.1,c.2,e5]) rfl (hW.upd (by decide) (by decide))
      ·have e3:a.eval (.tmp 3)=.pointer (some ⟨gm,0,none⟩):=E 3 rfl
       exact Rgs.val rfl (Reg.wanted_free rfl) (.pointer (some ⟨gm,1,none⟩)) (by have c:=Reg.consts a;generalize a.eval=ρ at *;simp[execOp,go_sem,c.1,c.2,e3]) rfl (hW.upd (by decide) (by decide))
      ·have d7:a.eval (.tmp 36)=.pointer (some ⟨gm,1,none⟩):=D 7 rfl _ _ rfl rfl
       have hc0:=(HFA.out w1 hW.any).2
       exact Rgs.val rfl (Reg.wanted_free rfl) (.int .i64 (j:Int)) (by have c:=Reg.consts a;generalize a.eval=ρ at *;simp[execOp,go_sem,c.1,c.2,d7,hc0]) rfl (hW.upd (by decide) (by decide))
      ·have d6:a.eval (.tmp 35)=.slice (some ⟨g,0,none⟩) n c:=D 6 rfl _ _ rfl rfl
       have d8:a.eval (.tmp 37)=.int .i64 (j:Int):=D 8 rfl _ _ rfl rfl
       have i1:=HLT.out
       obtain⟨i1,i2,i3,i4⟩:=i1
       have ead:=mk_add (g) (j*2)
       exact Rgs.val rfl (Reg.wanted_free rfl) (.pointer (some ⟨g,j*2,none⟩)) (by have c:=Reg.consts a;generalize a.eval=ρ at *;simp[execOp,go_sem,c.1,c.2,d6,d8,i1,i2,i3,i4,ead]) rfl (hW.upd (by decide) (by decide))
      ·have d9:a.eval (.tmp 38)=.pointer (some ⟨g,j*2,none⟩):=D 9 rfl _ _ rfl rfl
       exact Rgs.val rfl (Reg.wanted_free rfl) (.pointer (some ⟨g,j*2+1,none⟩)) (by have c:=Reg.consts a;generalize a.eval=ρ at *;simp[execOp,go_sem,c.1,c.2,d9]) rfl (hW.upd (by decide) (by decide))
      ·have d10:a.eval (.tmp 39)=.pointer (some ⟨g,j*2+1,none⟩):=D 10 rfl _ _ rfl rfl
       have l18:=Reg.not_live C h0 (j:=18) rfl rfl
       have l21:=Reg.not_live C l18 (j:=21) rfl rfl
       have l24:=Reg.not_live C l21 (j:=24) rfl rfl
       have hw:=hW.off l21 l24
       subst hw
       exact Rgs.val rfl (Reg.wanted_free rfl) (.int .i64 (y.n:Int)) (by have c:=Reg.consts a;generalize a.eval=ρ at *;simp[execOp,go_sem,c.1,c.2,d10,cy]) rfl (hW.upd (by decide) (by decide))
      ·have e5:a.eval (.tmp 5)=.slice (some ⟨g,0,none⟩) n c:=E 5 rfl
       exact Rgs.val rfl (Reg.wanted_free rfl) (.slice (some ⟨g,0,none⟩) n c) (by have c:=Reg.consts a;generalize a.eval=ρ at *;simp[execOp,go_sem,c.1,c.2,e5]) rfl (hW.upd (by decide) (by decide))
      ·have e3:a.eval (.tmp 3)=.pointer (some ⟨gm,0,none⟩):=E 3 rfl
       exact Rgs.val rfl (Reg.wanted_free rfl) (.pointer (some ⟨gm,0,none⟩)) (by have c:=Reg.consts a;generalize a.eval=ρ at *;simp[execOp,go_sem,c.1,c.2,e3]) rfl (hW.upd (by decide) (by decide))
      ·have d13:a.eval (.tmp 42)=.pointer (some ⟨gm,0,none⟩):=D 13 rfl _ _ rfl rfl
       have hc0:=(HFA.out w1 hW.any).1
       exact Rgs.val rfl (Reg.wanted_free rfl) (.int .i64 (i:Int)) (by have c:=Reg.consts a;generalize a.eval=ρ at *;simp[execOp,go_sem,c.1,c.2,d13,hc0]) rfl (hW.upd (by decide) (by decide))
      ·have d12:a.eval (.tmp 41)=.slice (some ⟨g,0,none⟩) n c:=D 12 rfl _ _ rfl rfl
       have d14:a.eval (.tmp 43)=.int .i64 (i:Int):=D 14 rfl _ _ rfl rfl
       have i1:=HLT.out
       obtain⟨i1,i2,i3,i4⟩:=i1
       have ead:=mk_add (g) (i*2)
       exact Rgs.val rfl (Reg.wanted_free rfl) (.pointer (some ⟨g,i*2,none⟩)) (by have c:=Reg.consts a;generalize a.eval=ρ at *;simp[execOp,go_sem,c.1,c.2,d12,d14,i1,i2,i3,i4,ead]) rfl (hW.upd (by decide) (by decide))
      ·have d15:a.eval (.tmp 44)=.pointer (some ⟨g,i*2,none⟩):=D 15 rfl _ _ rfl rfl
       exact Rgs.val rfl (Reg.wanted_free rfl) (.pointer (some ⟨g,i*2+1,none⟩)) (by have c:=Reg.consts a;generalize a.eval=ρ at *;simp[execOp,go_sem,c.1,c.2,d15]) rfl (hW.upd (by decide) (by decide))
      ·have d16:a.eval (.tmp 45)=.pointer (some ⟨g,i*2+1,none⟩):=D 16 rfl _ _ rfl rfl
       have l18:=Reg.not_live C h0 (j:=18) rfl rfl
       have l21:=Reg.not_live C l18 (j:=21) rfl rfl
       have l24:=Reg.not_live C l21 (j:=24) rfl rfl
       have hw:=hW.off l21 l24
       subst hw
       exact Rgs.val rfl (Reg.wanted_free rfl) (.int .i64 (x.n:Int)) (by have c:=Reg.consts a;generalize a.eval=ρ at *;simp[execOp,go_sem,c.1,c.2,d16,cx]) rfl (hW.upd (by decide) (by decide))
      ·have d11:a.eval (.tmp 40)=.int .i64 (y.n:Int):=D 11 rfl _ _ rfl rfl
       have d17:a.eval (.tmp 46)=.int .i64 (x.n:Int):=D 17 rfl _ _ rfl rfl
       have l21:=Reg.not_live C h0 (j:=21) rfl rfl
       have l24:=Reg.not_live C l21 (j:=24) rfl rfl
       have hw:=hW.off l21 l24
       subst hw
       refine Rgs.call rfl (Reg.wanted_free rfl) 48 #[.int .i64 (y.n:Int),.int .i64 (x.n:Int)] (by have c:=Reg.consts a;generalize a.eval=ρ at *;simp[execOp,go_sem,c.1,c.2,d11,d17]) ?_
       refine(HSM.out _).mono ?_
       rintro e w5 ⟨rfl,rfl⟩
       exact⟨_,rfl,rfl,(hW.upd (by decide) (by decide)),fun j v _ h=>h⟩
      ·have d0:a.eval (.tmp 29)=.slice (some ⟨g,0,none⟩) n c:=D 0 rfl _ _ rfl rfl
       have d2:a.eval (.tmp 31)=.int .i64 (j:Int):=D 2 rfl _ _ rfl rfl
       have i1:=HLT.out
       obtain⟨i1,i2,i3,i4⟩:=i1
       have ead:=mk_add (g) (j*2)
       exact Rgs.val rfl (Reg.wanted_free rfl) (.pointer (some ⟨g,j*2,none⟩)) (by have c:=Reg.consts a;generalize a.eval=ρ at *;simp[execOp,go_sem,c.1,c.2,d0,d2,i1,i2,i3,i4,ead]) rfl (hW.upd (by decide) (by decide))
      ·have d19:a.eval (.tmp 48)=.pointer (some ⟨g,j*2,none⟩):=D 19 rfl _ _ rfl rfl
       exact Rgs.val rfl (Reg.wanted_free rfl) (.pointer (some ⟨g,j*2+1,none⟩)) (by have c:=Reg.consts a;generalize a.eval=ρ at *;simp[execOp,go_sem,c.1,c.2,d19]) rfl (hW.upd (by decide) (by decide))
      ·have d20:a.eval (.tmp 49)=.pointer (some ⟨g,j*2+1,none⟩):=D 20 rfl _ _ rfl rfl
       have d18:a.eval (.tmp 47)=.int .i64 ((y.n:Int)+(x.n:Int)):=D 18 rfl _ _ rfl rfl
       have l24:=Reg.not_live C h0 (j:=24) rfl rfl
       have hw:=hW.off h0 l24
       subst hw
       refine Rgs.store rfl (Reg.wanted_free rfl) _ (by have c:=Reg.consts a;generalize a.eval=ρ at *;simp[execOp,go_sem,c.1,c.2,d20,d18,e1,e2]) rfl (Rgs.StW2.put1 _ (by decide) _ _ _ _ _ l24) (fun j v _ h=>h)
      ·have d3:a.eval (.tmp 32)=.slice (some ⟨g,0,none⟩) n c:=D 3 rfl _ _ rfl rfl
       have d5:a.eval (.tmp 34)=.int .i64 (i:Int):=D 5 rfl _ _ rfl rfl
       have i1:=HLT.out
       obtain⟨i1,i2,i3,i4⟩:=i1
       have ead:=mk_add (g) (i*2)
       exact Rgs.val rfl (Reg.wanted_free rfl) (.pointer (some ⟨g,i*2,none⟩)) (by have c:=Reg.consts a;generalize a.eval=ρ at *;simp[execOp,go_sem,c.1,c.2,d3,d5,i1,i2,i3,i4,ead]) rfl (hW.upd (by decide) (by decide))
      ·have d22:a.eval (.tmp 50)=.pointer (some ⟨g,i*2,none⟩):=D 22 rfl _ _ rfl rfl
       exact Rgs.val rfl (Reg.wanted_free rfl) (.pointer (some ⟨g,i*2+1,none⟩)) (by have c:=Reg.consts a;generalize a.eval=ρ at *;simp[execOp,go_sem,c.1,c.2,d22]) rfl (hW.upd (by decide) (by decide))
      ·have d23:a.eval (.tmp 51)=.pointer (some ⟨g,i*2+1,none⟩):=D 23 rfl _ _ rfl rfl
       have hw:=hW.mid (hk 21 rfl) h0
       subst hw
       refine Rgs.store rfl (Reg.wanted_free rfl) ((wq.drew.setCell ⟨g,j*2+1,none⟩ (.int .i64 ((y.n:Int)+(x.n:Int)))).setCell ⟨g,i*2+1,none⟩ (.int .i64 0)) ?_ rfl (Rgs.StW2.put2 _ _ _ _ _ _ _ _) (fun j v _ h=>h)
       obtain⟨wz,hwz⟩:∃ wz,wz=wq.drew.setCell ⟨g,j*2+1,none⟩ (.int .i64 ((y.n:Int)+(x.n:Int))):=⟨_,rfl⟩
       rw[← hwz] at k1 k2 ⊢
       clear hwz
       have c:=Reg.consts a
       generalize a.eval=ρ at *
       simp[execOp,go_sem,c.1,c.2,d23,k1,k2]
     ·intro a w3 live hs hd E D' Hl hW
      rw[Rgs.act_ws a _ _ hs hd E [29,30,31,32,33,34,35,36,37,38,39,40,41,42,43,44,45,46,47,48,49,50,51] (by kernel_rfl)]
      simp only[List.foldl,List.setIfInBounds_toArray,List.set_cons_succ,List.set_cons_zero]
      have hw:=hW.on (Hl 24 (by decide))
      subst hw
      clear E D' Hl hW e1 e2 k1 k2 cx cy HFA
      generalize a.eval=ρ
      clear a hs hd
      generalize (wq.drew.setCell ⟨g,j*2+1,none⟩ (.int .i64 ((y.n:Int)+(x.n:Int)))).setCell ⟨g,i*2+1,none⟩ (.int .i64 0)=w9 at HFIN HBF ⊢
      have hlm:=mv_len L i j true
      rw[HLN.out] at hlm
      have hT:=rtidy_any (some ⟨g,0,none⟩) n c (mv L i j true) w9 ⟨hlm,by rw[rs_flat];exact HFIN.out.own.rd⟩ HFIN.out.cap (by omega) (by rw[mv_ticks hij hx hy];exact ht)
      have HT:=hid hT
      clear hT
      go_wp2_with fail
      refine HT.out.mono ?_
      rintro e w10 ⟨A10,c10,rfl,hr10,hc10,hb10,_⟩
      have HR10:=hid (And.intro hr10 (HBF.out.trans (hb10.mono HBF.out.size)))
      clear hr10 hb10 HT
      go_wp2_with fail
      go_ret
      exact HOUT.out _ _ _ rfl ⟨A10,c10,rfl,HR10.out.1,hc10,HR10.out.2⟩
    | false =>
     go_upto_region 6 with fail
     clear q0' q1' q2'
     have hmm:=HOB.out.below (w':=wq.drew) (Below.refl _ _).drew
     have cy:wq.drew.cell? ⟨g,j*2+1,none⟩=some (.int .i64 (y.n:Int)):=(hmm.cellR hy).2.1
     have cx:wq.drew.cell? ⟨g,i*2+1,none⟩=some (.int .i64 (x.n:Int)):=(hmm.cellR hx).2.1
     have e1:wq.drew.cell? ⟨g,i*2+1,none⟩=some (.int .i64 (x.n:Int)):=(hmm.cellR hx).2.1
     have e2:wq.drew.frozen? ⟨g,i*2+1,none⟩=false:=(hmm.cellR hx).2.2.2
     have hm1:=OwnB.putK hmm rcl_len (k:=1) (y:=⟨x.p,y.n+x.n⟩) hx (by omega) (v:=(.int .i64 ((y.n:Int)+(x.n:Int)))) rfl
     have h2x:(L.set i ⟨x.p,y.n+x.n⟩)[j]? = some y:=by rw[List.getElem?_set_ne (by omega)];exact hy
     have k1:(wq.drew.setCell ⟨g,i*2+1,none⟩ (.int .i64 ((y.n:Int)+(x.n:Int)))).cell? ⟨g,j*2+1,none⟩=some (.int .i64 (y.n:Int)):=(hm1.cellR h2x).2.1
     have k2:(wq.drew.setCell ⟨g,i*2+1,none⟩ (.int .i64 ((y.n:Int)+(x.n:Int)))).frozen? ⟨g,j*2+1,none⟩=false:=(hm1.cellR h2x).2.2.2
     have hm2:=OwnB.putK hm1 rcl_len (k:=1) (y:=⟨y.p,0⟩) h2x (by omega) (v:=(.int .i64 0)) rfl
     have hmv:(L.set i ⟨x.p,y.n+x.n⟩).set j ⟨y.p,0⟩=mv L i j false:=by
      unfold mv
      rw[hx,hy]
      rfl
     rw[hmv] at hm2
     have HFIN:=hid hm2
     have HBF:Hid (Below w.heap.size w ((wq.drew.setCell ⟨g,i*2+1,none⟩ (.int .i64 ((y.n:Int)+(x.n:Int)))).setCell ⟨g,j*2+1,none⟩ (.int .i64 0))):=hid ((HBQ.out.drew.setCell (p:=⟨g,i*2+1,none⟩) hBg _).setCell (p:=⟨g,j*2+1,none⟩) hBg _)
     have HFA:Hid (∀ wx,(wx=wq.drew∨wx=wq.drew.setCell ⟨g,i*2+1,none⟩ (.int .i64 ((y.n:Int)+(x.n:Int)))∨wx=(wq.drew.setCell ⟨g,i*2+1,none⟩ (.int .i64 ((y.n:Int)+(x.n:Int)))).setCell ⟨g,j*2+1,none⟩ (.int .i64 0))→wx.cell? ⟨gm,0,none⟩=some (.int .i64 (i:Int))∧wx.cell? ⟨gm,1,none⟩=some (.int .i64 (j:Int))):=hid fun wx hwx=>by
      have hvd:Vec wq.drew gm 3 _:=HVM.out.drewN 1
      have hgm:gm≠g:=by omega
      rcases hwx with rfl | rfl | rfl
      ·exact⟨hvd.cell 0 (by omega),hvd.cell 1 (by omega)⟩
      ·exact⟨(hvd.other ⟨g,i*2+1,none⟩ _ hgm).cell 0 (by omega),(hvd.other ⟨g,i*2+1,none⟩ _ hgm).cell 1 (by omega)⟩
      ·exact⟨((hvd.other ⟨g,i*2+1,none⟩ _ hgm).other ⟨g,j*2+1,none⟩ _ hgm).cell 0 (by omega),((hvd.other ⟨g,i*2+1,none⟩ _ hgm).other ⟨g,j*2+1,none⟩ _ hgm).cell 1 (by omega)⟩
     clear hmm hm1 hm2 hmv h2x
     go_wp2_with fail
     refine Rgs.region (by kernel_rfl) (by kernel_rfl) (fun(opn:Nat) (vl:Value) (_:World)=>match opn with | 0=>vl=.slice (some ⟨g,0,none⟩) n c | 1=>vl=.pointer (some ⟨gm,0,none⟩) | 2=>vl=.int .i64 (i:Int) | 3=>vl=.slice (some ⟨g,0,none⟩) n c | 4=>vl=.pointer (some ⟨gm,1,none⟩) | 5=>vl=.int .i64 (j:Int) | 6=>vl=.slice (some ⟨g,0,none⟩) n c | 7=>vl=.pointer (some ⟨gm,1,none⟩) | 8=>vl=.int .i64 (j:Int) | 9=>vl=.pointer (some ⟨g,j*2,none⟩) | 10=>vl=.pointer (some ⟨g,j*2+1,none⟩) | 11=>vl=.int .i64 (y.n:Int) | 12=>vl=.slice (some ⟨g,0,none⟩) n c | 13=>vl=.pointer (some ⟨gm,0,none⟩) | 14=>vl=.int .i64 (i:Int) | 15=>vl=.pointer (some ⟨g,i*2,none⟩) | 16=>vl=.pointer (some ⟨g,i*2+1,none⟩) | 17=>vl=.int .i64 (x.n:Int) | 18=>vl=.int .i64 ((y.n:Int)+(x.n:Int)) | 19=>vl=.pointer (some ⟨g,i*2,none⟩) | 20=>vl=.pointer (some ⟨g,i*2+1,none⟩) | 21=>vl=undef | 22=>vl=.pointer (some ⟨g,j*2,none⟩) | 23=>vl=.pointer (some ⟨g,j*2+1,none⟩) | 24=>vl=undef | _=>True) (fun live _ w'=>Rgs.StW2 wq.drew 21 24 ⟨g,i*2+1,none⟩ ⟨g,j*2+1,none⟩ (.int .i64 ((y.n:Int)+(x.n:Int))) (.int .i64 0) live w') rfl (Rgs.steps_of ?_) ?_
     ·refine⟨?_,?_,?_,?_,?_,?_,?_,?_,?_,?_,?_,?_,?_,?_,?_,?_,?_,?_,?_,?_,?_,?_,?_,?_,?_,trivial⟩ <;> intro a w1 live S E D C h0 hk hW
      ·have e5:a.eval (.tmp 5)=.slice (some ⟨g,0,none⟩) n c:=E 5 rfl
       exact Rgs.val rfl (Reg.wanted_free rfl) (.slice (some ⟨g,0,none⟩) n c) (by have c:=Reg.consts a;generalize a.eval=ρ at *;simp[execOp,go_sem,c.1,c.2,e5]) rfl (hW.upd (by decide) (by decide))
      ·have e3:a.eval (.tmp 3)=.pointer (some ⟨gm,0,none⟩):=E 3 rfl
       exact Rgs.val rfl (Reg.wanted_free rfl) (.pointer (some ⟨gm,0,none⟩)) (by have c:=Reg.consts a;generalize a.eval=ρ at *;simp[execOp,go_sem,c.1,c.2,e3]) rfl (hW.upd (by decide) (by decide))
      ·have d1:a.eval (.tmp 53)=.pointer (some ⟨gm,0,none⟩):=D 1 rfl _ _ rfl rfl
       have hc0:=(HFA.out w1 hW.any).1
       exact Rgs.val rfl (Reg.wanted_free rfl) (.int .i64 (i:Int)) (by have c:=Reg.consts a;generalize a.eval=ρ at *;simp[execOp,go_sem,c.1,c.2,d1,hc0]) rfl (hW.upd (by decide) (by decide))
      ·have e5:a.eval (.tmp 5)=.slice (some ⟨g,0,none⟩) n c:=E 5 rfl
       exact Rgs.val rfl (Reg.wanted_free rfl) (.slice (some ⟨g,0,none⟩) n c) (by have c:=Reg.consts a;generalize a.eval=ρ at *;simp[execOp,go_sem,c.1,c.2,e5]) rfl (hW.upd (by decide) (by decide))
      ·have e3:a.eval (.tmp 3)=.pointer (some ⟨gm,0,none⟩):=E 3 rfl
       exact Rgs.val rfl (Reg.wanted_free rfl) (.pointer (some ⟨gm,1,none⟩)) (by have c:=Reg.consts a;generalize a.eval=ρ at *;simp[execOp,go_sem,c.1,c.2,e3]) rfl (hW.upd (by decide) (by decide))
      ·have d4:a.eval (.tmp 56)=.pointer (some ⟨gm,1,none⟩):=D 4 rfl _ _ rfl rfl
       have hc0:=(HFA.out w1 hW.any).2
       exact Rgs.val rfl (Reg.wanted_free rfl) (.int .i64 (j:Int)) (by have c:=Reg.consts a;generalize a.eval=ρ at *;simp[execOp,go_sem,c.1,c.2,d4,hc0]) rfl (hW.upd (by decide) (by decide))
      ·have e5:a.eval (.tmp 5)=.slice (some ⟨g,0,none⟩) n c:=E 5 rfl
       exact Rgs.val rfl (Reg.wanted_free rfl) (.slice (some ⟨g,0,none⟩) n c) (by have c:=Reg.consts a;generalize a.eval=ρ at *;simp[execOp,go_sem,c.1,c.2,e5]) rfl (hW.upd (by decide) (by decide))
      ·have e3:a.eval (.tmp 3)=.pointer (some ⟨gm,0,none⟩):=E 3 rfl
       exact Rgs.val rfl (Reg.wanted_free rfl) (.pointer (some ⟨gm,1,none⟩)) (by have c:=Reg.consts a;generalize a.eval=ρ at *;simp[execOp,go_sem,c.1,c.2,e3]) rfl (hW.upd (by decide) (by decide))
      ·have d7:a.eval (.tmp 59)=.pointer (some ⟨gm,1,none⟩):=D 7 rfl _ _ rfl rfl
       have hc0:=(HFA.out w1 hW.any).2
       exact Rgs.val rfl (Reg.wanted_free rfl) (.int .i64 (j:Int)) (by have c:=Reg.consts a;generalize a.eval=ρ at *;simp[execOp,go_sem,c.1,c.2,d7,hc0]) rfl (hW.upd (by decide) (by decide))
      ·have d6:a.eval (.tmp 58)=.slice (some ⟨g,0,none⟩) n c:=D 6 rfl _ _ rfl rfl
       have d8:a.eval (.tmp 60)=.int .i64 (j:Int):=D 8 rfl _ _ rfl rfl
       have i1:=HLT.out
       obtain⟨i1,i2,i3,i4⟩:=i1
       have ead:=mk_add (g) (j*2)
       exact Rgs.val rfl (Reg.wanted_free rfl) (.pointer (some ⟨g,j*2,none⟩)) (by have c:=Reg.consts a;generalize a.eval=ρ at *;simp[execOp,go_sem,c.1,c.2,d6,d8,i1,i2,i3,i4,ead]) rfl (hW.upd (by decide) (by decide))
      ·have d9:a.eval (.tmp 61)=.pointer (some ⟨g,j*2,none⟩):=D 9 rfl _ _ rfl rfl
       exact Rgs.val rfl (Reg.wanted_free rfl) (.pointer (some ⟨g,j*2+1,none⟩)) (by have c:=Reg.consts a;generalize a.eval=ρ at *;simp[execOp,go_sem,c.1,c.2,d9]) rfl (hW.upd (by decide) (by decide))
      ·have d10:a.eval (.tmp 62)=.pointer (some ⟨g,j*2+1,none⟩):=D 10 rfl _ _ rfl rfl
       have l18:=Reg.not_live C h0 (j:=18) rfl rfl
       have l21:=Reg.not_live C l18 (j:=21) rfl rfl
       have l24:=Reg.not_live C l21 (j:=24) rfl rfl
       have hw:=hW.off l21 l24
       subst hw
       exact Rgs.val rfl (Reg.wanted_free rfl) (.int .i64 (y.n:Int)) (by have c:=Reg.consts a;generalize a.eval=ρ at *;simp[execOp,go_sem,c.1,c.2,d10,cy]) rfl (hW.upd (by decide) (by decide))
      ·have e5:a.eval (.tmp 5)=.slice (some ⟨g,0,none⟩) n c:=E 5 rfl
       exact Rgs.val rfl (Reg.wanted_free rfl) (.slice (some ⟨g,0,none⟩) n c) (by have c:=Reg.consts a;generalize a.eval=ρ at *;simp[execOp,go_sem,c.1,c.2,e5]) rfl (hW.upd (by decide) (by decide))
      ·have e3:a.eval (.tmp 3)=.pointer (some ⟨gm,0,none⟩):=E 3 rfl
       exact Rgs.val rfl (Reg.wanted_free rfl) (.pointer (some ⟨gm,0,none⟩)) (by have c:=Reg.consts a;generalize a.eval=ρ at *;simp[execOp,go_sem,c.1,c.2,e3]) rfl (hW.upd (by decide) (by decide))
      ·have d13:a.eval (.tmp 65)=.pointer (some ⟨gm,0,none⟩):=D 13 rfl _ _ rfl rfl
       have hc0:=(HFA.out w1 hW.any).1
       exact Rgs.val rfl (Reg.wanted_free rfl) (.int .i64 (i:Int)) (by have c:=Reg.consts a;generalize a.eval=ρ at *;simp[execOp,go_sem,c.1,c.2,d13,hc0]) rfl (hW.upd (by decide) (by decide))
      ·have d12:a.eval (.tmp 64)=.slice (some ⟨g,0,none⟩) n c:=D 12 rfl _ _ rfl rfl
       have d14:a.eval (.tmp 66)=.int .i64 (i:Int):=D 14 rfl _ _ rfl rfl
       have i1:=HLT.out
       obtain⟨i1,i2,i3,i4⟩:=i1
       have ead:=mk_add (g) (i*2)
       exact Rgs.val rfl (Reg.wanted_free rfl) (.pointer (some ⟨g,i*2,none⟩)) (by have c:=Reg.consts a;generalize a.eval=ρ at *;simp[execOp,go_sem,c.1,c.2,d12,d14,i1,i2,i3,i4,ead]) rfl (hW.upd (by decide) (by decide))
      ·have d15:a.eval (.tmp 67)=.pointer (some ⟨g,i*2,none⟩):=D 15 rfl _ _ rfl rfl
       exact Rgs.val rfl (Reg.wanted_free rfl) (.pointer (some ⟨g,i*2+1,none⟩)) (by have c:=Reg.consts a;generalize a.eval=ρ at *;simp[execOp,go_sem,c.1,c.2,d15]) rfl (hW.upd (by decide) (by decide))
      ·have d16:a.eval (.tmp 68)=.pointer (some ⟨g,i*2+1,none⟩):=D 16 rfl _ _ rfl rfl
       have l18:=Reg.not_live C h0 (j:=18) rfl rfl
       have l21:=Reg.not_live C l18 (j:=21) rfl rfl
       have l24:=Reg.not_live C l21 (j:=24) rfl rfl
       have hw:=hW.off l21 l24
       subst hw
       exact Rgs.val rfl (Reg.wanted_free rfl) (.int .i64 (x.n:Int)) (by have c:=Reg.consts a;generalize a.eval=ρ at *;simp[execOp,go_sem,c.1,c.2,d16,cx]) rfl (hW.upd (by decide) (by decide))
      ·have d11:a.eval (.tmp 63)=.int .i64 (y.n:Int):=D 11 rfl _ _ rfl rfl
       have d17:a.eval (.tmp 69)=.int .i64 (x.n:Int):=D 17 rfl _ _ rfl rfl
       have l21:=Reg.not_live C h0 (j:=21) rfl rfl
       have l24:=Reg.not_live C l21 (j:=24) rfl rfl
       have hw:=hW.off l21 l24
       subst hw
       refine Rgs.call rfl (Reg.wanted_free rfl) 48 #[.int .i64 (y.n:Int),.int .i64 (x.n:Int)] (by have c:=Reg.consts a;generalize a.eval=ρ at *;simp[execOp,go_sem,c.1,c.2,d11,d17]) ?_
       refine(HSM.out _).mono ?_
       rintro e w5 ⟨rfl,rfl⟩
       exact⟨_,rfl,rfl,(hW.upd (by decide) (by decide)),fun j v _ h=>h⟩
      ·have d0:a.eval (.tmp 52)=.slice (some ⟨g,0,none⟩) n c:=D 0 rfl _ _ rfl rfl
       have d2:a.eval (.tmp 54)=.int .i64 (i:Int):=D 2 rfl _ _ rfl rfl
       have i1:=HLT.out
       obtain⟨i1,i2,i3,i4⟩:=i1
       have ead:=mk_add (g) (i*2)
       exact Rgs.val rfl (Reg.wanted_free rfl) (.pointer (some ⟨g,i*2,none⟩)) (by have c:=Reg.consts a;generalize a.eval=ρ at *;simp[execOp,go_sem,c.1,c.2,d0,d2,i1,i2,i3,i4,ead]) rfl (hW.upd (by decide) (by decide))
      ·have d19:a.eval (.tmp 71)=.pointer (some ⟨g,i*2,none⟩):=D 19 rfl _ _ rfl rfl
       exact Rgs.val rfl (Reg.wanted_free rfl) (.pointer (some ⟨g,i*2+1,none⟩)) (by have c:=Reg.consts a;generalize a.eval=ρ at *;simp[execOp,go_sem,c.1,c.2,d19]) rfl (hW.upd (by decide) (by decide))
      ·have d20:a.eval (.tmp 72)=.pointer (some ⟨g,i*2+1,none⟩):=D 20 rfl _ _ rfl rfl
       have d18:a.eval (.tmp 70)=.int .i64 ((y.n:Int)+(x.n:Int)):=D 18 rfl _ _ rfl rfl
       have l24:=Reg.not_live C h0 (j:=24) rfl rfl
       have hw:=hW.off h0 l24
       subst hw
       refine Rgs.store rfl (Reg.wanted_free rfl) _ (by have c:=Reg.consts a;generalize a.eval=ρ at *;simp[execOp,go_sem,c.1,c.2,d20,d18,e1,e2]) rfl (Rgs.StW2.put1 _ (by decide) _ _ _ _ _ l24) (fun j v _ h=>h)
      ·have d3:a.eval (.tmp 55)=.slice (some ⟨g,0,none⟩) n c:=D 3 rfl _ _ rfl rfl
       have d5:a.eval (.tmp 57)=.int .i64 (j:Int):=D 5 rfl _ _ rfl rfl
       have i1:=HLT.out
       obtain⟨i1,i2,i3,i4⟩:=i1
       have ead:=mk_add (g) (j*2)
       exact Rgs.val rfl (Reg.wanted_free rfl) (.pointer (some ⟨g,j*2,none⟩)) (by have c:=Reg.consts a;generalize a.eval=ρ at *;simp[execOp,go_sem,c.1,c.2,d3,d5,i1,i2,i3,i4,ead]) rfl (hW.upd (by decide) (by decide))
      ·have d22:a.eval (.tmp 73)=.pointer (some ⟨g,j*2,none⟩):=D 22 rfl _ _ rfl rfl
       exact Rgs.val rfl (Reg.wanted_free rfl) (.pointer (some ⟨g,j*2+1,none⟩)) (by have c:=Reg.consts a;generalize a.eval=ρ at *;simp[execOp,go_sem,c.1,c.2,d22]) rfl (hW.upd (by decide) (by decide))
      ·have d23:a.eval (.tmp 74)=.pointer (some ⟨g,j*2+1,none⟩):=D 23 rfl _ _ rfl rfl
       have hw:=hW.mid (hk 21 rfl) h0
       subst hw
       refine Rgs.store rfl (Reg.wanted_free rfl) ((wq.drew.setCell ⟨g,i*2+1,none⟩ (.int .i64 ((y.n:Int)+(x.n:Int)))).setCell ⟨g,j*2+1,none⟩ (.int .i64 0)) ?_ rfl (Rgs.StW2.put2 _ _ _ _ _ _ _ _) (fun j v _ h=>h)
       obtain⟨wz,hwz⟩:∃ wz,wz=wq.drew.setCell ⟨g,i*2+1,none⟩ (.int .i64 ((y.n:Int)+(x.n:Int))):=⟨_,rfl⟩
       rw[← hwz] at k1 k2 ⊢
       clear hwz
       have c:=Reg.consts a
       generalize a.eval=ρ at *
       simp[execOp,go_sem,c.1,c.2,d23,k1,k2]
     ·intro a w3 live hs hd E D' Hl hW
      rw[Rgs.act_ws a _ _ hs hd E [52,53,54,55,56,57,58,59,60,61,62,63,64,65,66,67,68,69,70,71,72,73,74] (by kernel_rfl)]
      simp only[List.foldl,List.setIfInBounds_toArray,List.set_cons_succ,List.set_cons_zero]
      have hw:=hW.on (Hl 24 (by decide))
      subst hw
      clear E D' Hl hW e1 e2 k1 k2 cx cy HFA
      generalize a.eval=ρ
      clear a hs hd
      generalize (wq.drew.setCell ⟨g,i*2+1,none⟩ (.int .i64 ((y.n:Int)+(x.n:Int)))).setCell ⟨g,j*2+1,none⟩ (.int .i64 0)=w9 at HFIN HBF ⊢
      have hlm:=mv_len L i j false
      rw[HLN.out] at hlm
      have hT:=rtidy_any (some ⟨g,0,none⟩) n c (mv L i j false) w9 ⟨hlm,by rw[rs_flat];exact HFIN.out.own.rd⟩ HFIN.out.cap (by omega) (by rw[mv_ticks hij hx hy];exact ht)
      have HT:=hid hT
      clear hT
      go_wp2_with fail
      refine HT.out.mono ?_
      rintro e w10 ⟨A10,c10,rfl,hr10,hc10,hb10,_⟩
      have HR10:=hid (And.intro hr10 (HBF.out.trans (hb10.mono HBF.out.size)))
      clear hr10 hb10 HT
      go_wp2_with fail
      go_ret
      exact HOUT.out _ _ _ rfl ⟨A10,c10,rfl,HR10.out.1,hc10,HR10.out.2⟩
def Fair (parts:Nat) (r:Rn):Prop:=1≤r.n∧r.n≤4∧-1≤r.p∧r.p < parts
theorem fair_ticks {parts:Nat} {L:List Rn} (h:∀ r∈L,Fair parts r):ticks L≤4*L.length:=by
 induction L with
 | nil=>simp[ticks]
 | cons x L ih =>
  have h1:=h x (by simp)
  have h2:=ih fun r hr=>h r (by simp[hr])
  unfold Fair at h1
  simp only[ticks,List.length_cons]
  omega
def RowT (B b:Nat) (A:Option Addr) (m c:Nat) (f:Nat→Int) (parts most:Nat) (w:World) (e:Ending) (w':World):Prop :=
 ∃(L:List Rn) (A':Option Addr) (n' c' at':Nat),e=.returned (.slice A' n' c')∧(∀ r∈L,Fair parts r)∧OwnV 75 2 w' w.heap.size A' n' c' (rs L)∧1≤n'∧n'≤most∧TapeW w' B b A m c f at'∧w.grownBy w' (some b)
theorem OwnV.gb {E s:Nat} {w w':World} {B n c b:Nat} {A:Option Addr} {l:List Value} (h:OwnV E s w B A n c l) (hg:w.grownBy w' (some b)) (hb:b < B):OwnV E s w' B A n c l :=
 h.keep fun k hk hlt=>hg.block k hlt (fun e=>by injection e with e;omega)
set_option maxRecDepth 100000 in
set_option maxHeartbeats 4000000 in
theorem row_any (B b:Nat) (A:Option Addr) (m c:Nat) (f:Nat→Int) (hm:m≤140737488351232) (parts most:Nat) (hp1:1≤parts) (hp2:parts≤6) (hm1:1≤most) (hm2:most≤64) (at_:Nat) (w:World) (T:TapeW w B b A m c f at_) :
  Calls Tryz.prog 10 #[.pointer (some ⟨b,0,none⟩),.int .i64 (parts:Int),.int .i64 (most:Int)] w (RowT B b A m c f parts most w):=by
 have hb0:b < w.heap.size:=T.lt
 go_enter Tryz.func10,Tryz.ntmps10
 go_wp2_with fail
 refine(next_at B b A m c f at_ most _ w T rfl hm1 (by omega) hm).mono ?_
 rintro e w1 ⟨k,at1,hk,rfl,T1,G1⟩
 go_wp2_with fail
 go_loopw [7,8] (fun q s wr=>∃(i:Nat) (L:List Rn) (A1:Option Addr) (c1 at':Nat),i≤1+k∧s=.int .i64 ((1+k - i:Nat):Int)∧q=.slice A1 i c1∧(∀ r∈L,Fair parts r)∧OwnV 75 2 wr w.heap.size A1 i c1 (rs L)∧TapeW wr B b A m c f at'∧w.grownBy wr (some b)) (fun _ s _=>(intOf s).toNat)
 case atStart=>exact⟨0,[],none,0,at1,by omega,by simp,rfl,by simp,OwnV.nil _ _ _ _,T1,G1⟩
 case round =>
  obtain⟨i,L,A1,c1,at3,hi,rfl,rfl,hL,hown,T4,G4⟩:=hrel
  have HLL:=hid hL
  clear hL
  by_cases hlt:i < 1+k
  ·obtain⟨j,hj⟩:∃ j:Nat,1+k - i=j+1:=⟨k - i,by omega⟩
   rw[hj]
   have hj0:0 < (j:Int)+1:=by omega
   go_wp2_with fail
   refine(next_at B b A m c f at3 (parts+1) _ _ T4 (by omega) (by omega) (by omega) hm).mono ?_
   rintro e w5 ⟨p,at5,hp,rfl,T5,G5⟩
   go_wp2_with fail
   refine(next_at B b A m c f at5 4 _ w5 T5 rfl (by omega) (by omega) hm).mono ?_
   rintro e w6 ⟨z,at6,hz,rfl,T6,G6⟩
   have q6:=(hown.gb G5 hb0).gb G6 hb0
   have G7:=gb_trans G4 (gb_trans G5 G6)
   have hown7:=q6.below rfl (bl1 w6 (.cells #[.int .i64 ((p:Int) - 1),.int .i64 (1+(z:Int))] 75))
   have T7:=T6.below (bl1 w6 (.cells #[.int .i64 ((p:Int) - 1),.int .i64 (1+(z:Int))] 75)) T6.lt
   have G8:=gb_alloc G7 (.cells #[.int .i64 ((p:Int) - 1),.int .i64 (1+(z:Int))] 75)
   have hrd:=rdV_new w6 #[.int .i64 ((p:Int) - 1),.int .i64 (1+(z:Int))] 75 (rs [⟨(p:Int) - 1,1+z⟩]) rfl
   clear T1 T4 T5 T6 G1 G4 G5 G6 G7 hown q6
   go_wp2_with (at_builtin;go_loud (refine wpList_appV elR rfl (.tmp 17) (.tmp 27) rfl rfl w.heap.size A1 i c1 _ rfl hown7 _ 1 1 _ _ rfl hrd rfl (rs_one _) (by omega) (by unfold maxLen;omega) G8.size (i+1) rfl (rs (L++[⟨(p:Int) - 1,1+z⟩])) (rs_append _ _).symm ?_;intro A2 c2 w2 hw2 hb2 _))
   go_roundw
   case rel =>
    refine⟨i+1,_,A2,c2,at6,by omega,?_,rfl,?_,hw2,T7.below hb2 hb0,gb_below G8 hb2 (Nat.le_refl _)⟩
    ·rw[show 1+k - (i+1)=j by omega]
    ·intro r hr
     rcases List.mem_append.1 hr with hr | hr
     ·exact HLL.out r hr
     ·simp at hr
      subst hr
      unfold Fair
      dsimp only
      omega
   case measure=>simp[intOf]
  ·have e:1+k - i=0:=by omega
   rw[e]
   go_wp2_with fail
   go_ret
   exact⟨L,A1,i,c1,at3,rfl,HLL.out,hown,by omega,by omega,T4,G4⟩
def RowB (parts most:Nat) (w:World) (e:Ending) (w':World):Prop :=
 ∃(L:List Rn) (A':Option Addr) (n' c':Nat),e=.returned (.slice A' n' c')∧(∀ r∈L,Fair parts r)∧RdR w' w'.heap.size A' n' L∧n'≤c'∧1≤n'∧n'≤most∧Below w.heap.size w w'
def rnd (W:List Int) (t:Nat):Option Int:=W[t % W.length]?
theorem rnd_add (W:List Int) (t k:Nat):rnd W (t+W.length*k)=rnd W t:=by
 unfold rnd
 rw[Nat.add_mul_mod_self_left]
theorem rnd_lt {W:List Int} {t:Nat} (h:t < W.length):rnd W t=W[t]?:=by
 unfold rnd
 rw[Nat.mod_eq_of_lt h]
theorem hasL_iff {W:List Int} {q:Int}:hasL q W=true↔∃ i,i < W.length∧W[i]? = some q:=by
 refine⟨hasL_get,?_⟩
 induction W with
 | nil=>rintro ⟨i,hi,_⟩;simp at hi
 | cons x W ih =>
  rintro ⟨i,hi,e⟩
  simp only[hasL,Bool.or_eq_true,decide_eq_true_eq]
  cases i with
  | zero=>left;simpa using e
  | succ i=>right;exact ih ⟨i,by simpa using hi,by simpa using e⟩
theorem hasL_rnd {W:List Int} {q:Int}:hasL q W=true↔∃ t,rnd W t=some q:=by
 rw[hasL_iff]
 constructor
 ·rintro ⟨i,hi,e⟩
  exact⟨i,by rw[rnd_lt hi];exact e⟩
 ·rintro ⟨t,e⟩
  unfold rnd at e
  have h:=(List.getElem?_eq_some_iff.1 e).1
  exact⟨_,h,e⟩
def Dst (W:List Int) (q:Int) (t d:Nat):Prop:=1≤d∧rnd W (t+d)=some q∧∀ e,1≤e→e < d→¬ rnd W (t+e)=some q
theorem Dst.eq {W:List Int} {q:Int} {t d e:Nat} (h:Dst W q t d) (k:Dst W q t e):d=e:=by
 rcases Nat.lt_trichotomy d e with hl | hl | hl
 ·exact absurd h.2.1 (k.2.2 d h.1 hl)
 ·exact hl
 ·exact absurd k.2.1 (h.2.2 e k.1 hl)
theorem distF_dst {W:List Int} {q:Int} {t:Nat}:∀ f d,1≤d→(∀ e,1≤e→e < d→¬ rnd W (t+e)=some q)→(∃ e,d≤e∧e < d+f∧rnd W (t+e)=some q)→Dst W q t (distF W q t f d):=by
 intro f
 induction f with
 | zero=>rintro d _ _ ⟨e,h1,h2,_⟩;omega
 | succ f ih =>
  intro d hd hno hex
  by_cases hh:rnd W (t+d)=some q
  ·rw[distF_yes (by unfold rnd at hh;exact hh)]
   exact⟨hd,hh,hno⟩
  ·rw[distF_no (by unfold rnd at hh;exact hh)]
   refine ih (d+1) (by omega) (fun e h1 h2=>?_) ?_
   ·by_cases hed:e=d
    ·subst hed;exact hh
    ·exact hno e h1 (by omega)
   ·obtain⟨e,h1,h2,h3⟩:=hex
    refine⟨e,?_,by omega,h3⟩
    rcases Nat.lt_or_ge d e with h4 | h4
    ·omega
    ·have:e=d:=by omega
     subst this
     exact absurd h3 hh
theorem dist_dst {W:List Int} {q:Int} (h:hasL q W=true) (t:Nat):Dst W q t (dist W q t):=by
 obtain⟨e,h1,h2,h3⟩:=dist_ex h t
 exact distF_dst W.length 1 (Nat.le_refl _) (fun e h1 h2=>by omega) ⟨e,h1,by omega,h3⟩
theorem dist_le {W:List Int} {q:Int} (h:hasL q W=true) (t:Nat):dist W q t≤W.length:=by
 obtain⟨e,h1,h2,h3⟩:=dist_ex h t
 have k:=dist_dst h t
 rcases Nat.lt_or_ge e (dist W q t) with hl | hl
 ·exact absurd h3 (k.2.2 e h1 hl)
 ·omega
theorem lateW_le {W:List Int} {p q:Int} {M:Nat}:∀ k,lateW W p q k≤M↔∀ t,t < k→W[t]? = some p→dist W q t≤M:=by
 intro k
 induction k with
 | zero=>exact⟨fun _ t h=>by omega,fun _=>Nat.zero_le _⟩
 | succ k ih =>
  unfold lateW
  by_cases hp:W[k]? = some p
  ·rw[if_pos hp]
   constructor
   ·intro h t ht hpt
    by_cases htk:t=k
    ·subst htk;omega
    ·exact(ih.1 (by omega)) t (by omega) hpt
   ·intro h
    have h1:=ih.2 fun t ht hpt=>h t (by omega) hpt
    have h2:=h k (by omega) hp
    omega
  ·rw[if_neg hp,ih]
   constructor
   ·intro h t ht hpt
    by_cases htk:t=k
    ·subst htk;exact absurd hpt hp
    ·exact h t (by omega) hpt
   ·exact fun h t ht hpt=>h t (by omega) hpt
theorem lateW_rnd {W:List Int} {p q:Int} {M:Nat} (hq:hasL q W=true):lateW W p q W.length≤M↔∀ t d,rnd W t=some p→Dst W q t d→d≤M:=by
 rw[lateW_le]
 constructor
 ·intro h t d hp hd
  have hpos:0 < W.length:=by
   unfold rnd at hp
   have:=(List.getElem?_eq_some_iff.1 hp).1
   omega
  have hlt:t % W.length < W.length:=Nat.mod_lt _ hpos
  have h1:=h (t % W.length) hlt hp
  have e:∀ x,rnd W (t % W.length+x)=rnd W (t+x):=fun x=>by
   have h2:=Nat.div_add_mod t W.length
   have h3:t+x=(t % W.length+x)+W.length*(t / W.length):=by omega
   rw[h3,rnd_add]
  have hd2:Dst W q (t % W.length) d:=⟨hd.1,by rw[e];exact hd.2.1,fun x hx hx2=>by rw[e];exact hd.2.2 x hx hx2⟩
  rw[(dist_dst hq (t % W.length)).eq hd2] at h1
  exact h1
 ·intro h t ht hp
  exact h t _ (by rw[rnd_lt ht];exact hp) (dist_dst hq t)
theorem nat_eq_of_le {a b:Nat} (h:∀ M,a≤M↔b≤M):a=b:=Nat.le_antisymm ((h b).2 (Nat.le_refl _)) ((h a).1 (Nat.le_refl _))
structure Circ (V W:List Int) (a:Nat):Prop where
 pos:0 < W.length
 eq:∀ i,rnd V i=rnd W (i+a)
theorem Circ.back {V W:List Int} {a:Nat} (h:Circ V W a) (j:Nat):∃ i,∀ x,rnd W (j+x)=rnd V (i+x):=by
 refine⟨j+(W.length - 1)*a,fun x=>?_⟩
 rw[h.eq]
 have hp:=h.pos
 have e:j+(W.length - 1)*a+x+a=(j+x)+W.length*a:=by
  have:W.length*a=(W.length - 1)*a+a:=by
   conv=>lhs;rw[show W.length=(W.length - 1)+1 by omega]
   rw[Nat.add_mul,Nat.one_mul]
  omega
 rw[e,rnd_add]
theorem Circ.has {V W:List Int} {a:Nat} (h:Circ V W a) (q:Int):hasL q V=hasL q W:=by
 rw[Bool.eq_iff_iff,hasL_rnd,hasL_rnd]
 constructor
 ·rintro ⟨t,e⟩
  exact⟨t+a,by rw[← h.eq];exact e⟩
 ·rintro ⟨t,e⟩
  obtain⟨i,hi⟩:=h.back t
  exact⟨i,by have:=hi 0;simp only[Nat.add_zero] at this;rw[← this];exact e⟩
theorem Circ.late {V W:List Int} {a:Nat} (h:Circ V W a) (p q:Int):lateL V p q=lateL W p q:=by
 unfold lateL
 rw[h.has p,h.has q]
 by_cases hp:hasL p W=false
 ·rw[if_pos hp,if_pos hp]
 ·rw[if_neg hp,if_neg hp]
  by_cases hq:hasL q W=false
  ·rw[if_pos hq,if_pos hq]
  ·rw[if_neg hq,if_neg hq]
   have hqW:hasL q W=true:=by simpa using hq
   have hqV:hasL q V=true:=by rw[h.has];exact hqW
   congr 1
   refine nat_eq_of_le fun M=>?_
   rw[lateW_rnd hqV,lateW_rnd hqW]
   constructor
   ·intro H t d hpt hd
    obtain⟨i,hi⟩:=h.back t
    have h0:=hi 0
    simp only[Nat.add_zero] at h0
    exact H i d (by rw[← h0];exact hpt) ⟨hd.1,by rw[← hi];exact hd.2.1,fun x h1 h2=>by rw[← hi];exact hd.2.2 x h1 h2⟩
   ·intro H t d hpt hd
    have e:∀ x,rnd V (t+x)=rnd W (t+a+x):=fun x=>by rw[h.eq,Nat.add_right_comm]
    have e0:=e 0
    simp only[Nat.add_zero] at e0
    exact H (t+a) d (by rw[← e0];exact hpt) ⟨hd.1,by rw[← e];exact hd.2.1,fun x h1 h2=>by rw[← e];exact hd.2.2 x h1 h2⟩
def gapL (W:List Int) (p:Int):Int:=if lateL W p p < 1 then -1 else lateL W p p - 1
theorem lateL_le (W:List Int) (p q:Int):lateL W p q≤W.length:=by
 unfold lateL
 split
 ·omega
 ·split
  ·omega
  ·rename_i h
   have hq:hasL q W=true:=by simpa using h
   have:=(lateW_le (W:=W) (p:=p) (q:=q) (M:=W.length) W.length).2 fun t _ _=>dist_le hq t
   omega
theorem cnt_has {W:List Int} {p:Int}:0 < cntF p W↔hasL p W=true:=by
 induction W with
 | nil=>simp[cntF,hasL]
 | cons x W ih =>
  simp only[cntF,hasL,Bool.or_eq_true,decide_eq_true_eq,← ih]
  by_cases hx:x=p
  ·simp[hx];omega
  ·simp[hx]
theorem cnt_rep (p x:Int) (n:Nat):cntF p (List.replicate n x)=if x=p then n else 0:=by
 induction n with
 | zero=>simp[cntF]
 | succ n ih =>
  simp only[List.replicate_succ,cntF,ih]
  by_cases h:x=p
  ·simp[h];omega
  ·simp[h]
theorem cnt_words (p:Int) (L:List Rn):cntF p (wordsL L)=tkOf p L:=by
 induction L with
 | nil=>rfl
 | cons r s ih=>simp only[wordsL,cntF_append,cnt_rep,tkOf,ih]
theorem budL_ge (W:List Int) (p z:Int):-1≤budL W p z:=by
 unfold budL
 split
 ·omega
 ·split
  ·omega
  ·split <;> omega
def chLate (W:List Int) (x:ChV):Bool:=decide (0 < x.late) && (decide (lateL W x.from_ x.to_ < 0) || decide (x.late < lateL W x.from_ x.to_))
def ptShort (W:List Int) (i:Nat) (x:PtV):Bool:=decide (0 < x.bud) && decide (budL W (i:Int) x.per < x.bud)
def shortF (W:List Int):Nat→List PtV→Bool
 | _,[]=>false
 | i,x::l=>ptShort W i x || shortF W (i+1) l
def holdsF (W:List Int) (P:List PtV) (C:List ChV):Int:=if C.any (chLate W)=true then 19 else if shortF W 0 P=true then 20 else 0
theorem holdsF_late {W:List Int} {P:List PtV} {C:List ChV} (h:C.any (chLate W)=true):holdsF W P C=19:=if_pos h
theorem holdsF_short {W:List Int} {P:List PtV} {C:List ChV} (h:C.any (chLate W)=false) (h2:shortF W 0 P=true):holdsF W P C=20:=by unfold holdsF;rw[if_neg (by rw[h];decide),if_pos h2]
theorem holdsF_ok {W:List Int} {P:List PtV} {C:List ChV} (h:C.any (chLate W)=false) (h2:shortF W 0 P=false):holdsF W P C=0:=by unfold holdsF;rw[if_neg (by rw[h];decide),if_neg (by rw[h2];decide)]
theorem any_more {α:Type} (f:α→Bool) {l:List α} {i:Nat} {x:α} (h:l[i]? = some x):(l.take (i+1)).any f=((l.take i).any f || f x):=by
 obtain⟨hi,e⟩:=List.getElem?_eq_some_iff.1 h
 rw[List.take_succ_eq_append_getElem hi,List.any_append,e]
 simp
theorem any_mem {α:Type} (f:α→Bool) {l:List α} {i:Nat} {x:α} (h:l[i]? = some x) (hf:f x=true):l.any f=true:=List.any_eq_true.2 ⟨x,List.mem_of_getElem? h,hf⟩
theorem shortF_append (W:List Int) (a b:List PtV):∀ i,shortF W i (a++b)=(shortF W i a || shortF W (i+a.length) b):=by
 induction a with
 | nil=>intro i;simp[shortF]
 | cons x a ih =>
  intro i
  simp only[List.cons_append,shortF,ih,List.length_cons,Bool.or_assoc]
  rw[show i+1+a.length=i+(a.length+1) by omega]
theorem short_more {W:List Int} {l:List PtV} {i:Nat} {x:PtV} (h:l[i]? = some x):shortF W 0 (l.take (i+1))=(shortF W 0 (l.take i) || ptShort W i x):=by
 obtain⟨hi,e⟩:=List.getElem?_eq_some_iff.1 h
 rw[List.take_succ_eq_append_getElem hi,shortF_append,e,Nat.zero_add,List.length_take,Nat.min_eq_left (by omega)]
 simp[shortF]
theorem short_mem {W:List Int} {l:List PtV} {i:Nat} {x:PtV} (h:l[i]? = some x) (hs:ptShort W i x=true):shortF W 0 l=true:=by
 have e:=short_more (W:=W) h
 rw[hs,Bool.or_true] at e
 have k:=shortF_append W (l.take (i+1)) (l.drop (i+1)) 0
 rw[List.take_append_drop,e,Bool.true_or] at k
 exact k
theorem shortF_iff {W:List Int} {l:List PtV}:shortF W 0 l=false↔∀ i x,l[i]? = some x→ptShort W i x=false:=by
 constructor
 ·intro h i x hx
  cases hs:ptShort W i x with
  | false=>rfl
  | true=>rw[short_mem hx hs] at h;cases h
 ·intro h
  have key:∀ k,shortF W 0 (l.take k)=false:=by
   intro k
   induction k with
   | zero=>rfl
   | succ k ih =>
    cases hx:l[k]? with
    | none =>
     have:l.length≤k:=List.getElem?_eq_none_iff.1 hx
     rw[List.take_of_length_le (by omega)]
     rw[List.take_of_length_le this] at ih
     exact ih
    | some x=>rw[short_more hx,ih,h k x hx];rfl
  have:=key l.length
  rwa [List.take_length] at this
set_option maxRecDepth 100000 in
set_option maxHeartbeats 4000000 in
theorem holdsx_any (A1 A2 A3 A4:Option Addr) (n1 n2 n3 n4 c1 c2 c3 c4:Nat) (P:List PtV) (C:List ChV) (L:List Rn) (w:World) (hP:RdB pcl w w.heap.size A1 n1 P) (hC:RdB cc w w.heap.size A2 n2 C) (hL:RdR w w.heap.size A4 n4 L)
  (q1:n1≤1048576) (q2:n2≤1048576) (q4:n4≤c4) (q5:n4≤1048576) (ht:ticks L≤8192) (hz:∀ x∈P,In64 x.per) :
  Calls Tryz.prog 20 #[.agg #[.slice A1 n1 c1,.slice A2 n2 c2,.slice A3 n3 c3],.slice A4 n4 c4] w (Ans (.int .i64 (holdsF (wordsL L) P C)) w):=by
 have hb0:=bl1 w (.cells #[.slice A1 n1 c1,.slice A2 n2 c2,.slice A3 n3 c3] 31)
 have hP0:=hP.on hb0
 have hC0:=hC.on hb0
 have hL0:=hL.on hb0
 have m0:(w.alloc (.cells #[.slice A1 n1 c1,.slice A2 n2 c2,.slice A3 n3 c3] 31)).cell? ⟨w.heap.size,0,none⟩=some (.slice A1 n1 c1):=World.cell?_alloc_mark _ _ _ _ _
 have hgs:w.heap.size < (w.alloc (.cells #[.slice A1 n1 c1,.slice A2 n2 c2,.slice A3 n3 c3] 31)).heap.size:=by simp
 have HZ:=hid hz
 obtain⟨R,hR⟩:∃ R,R=holdsF (wordsL L) P C:=⟨_,rfl⟩
 rw[← hR]
 obtain⟨X,hX⟩:∃ X,X=wordsL L:=⟨_,rfl⟩
 rw[← hX] at hR
 have HR:=hid hR
 have HX:=hid hX
 have hPl:=hP.len
 have hCl:=hC.len
 have HPL:=hid hPl
 have HCL:=hid hCl
 clear hP hC hL hz hR hX hPl hCl
 go_enter Tryz.func20,Tryz.ntmps20
 go_wp2_with fail
 generalize w.alloc (.cells #[.slice A1 n1 c1,.slice A2 n2 c2,.slice A3 n3 c3] 31)=W at hb0 hP0 hC0 hL0 m0 hgs ⊢
 obtain⟨g,hg⟩:∃ g,g=w.heap.size:=⟨_,rfl⟩
 rw[← hg] at m0 hgs ⊢
 have HG:=hid hg
 have HM0:=hid m0
 clear hg m0
 go_loopw [6,7,13] (fun _ _ s wr=>∃ i:Nat,i≤n2∧s=.int .i64 i∧(C.take i).any (chLate X)=false∧Below W.heap.size W wr) (fun _ _ s _=>n2 - (intOf s).toNat)
 case atStart=>exact⟨0,by omega,rfl,rfl,Below.refl _ _⟩
 case round =>
  obtain⟨i,hi,rfl,hany,hb⟩:=hrel
  have HANY:=hid hany
  clear hany
  by_cases hlt:i < n2
  ·obtain⟨ad,x,rfl,had,hx,c0,ck⟩:=(hC0.on hb).at_ cc_len (by omega) hlt
   have d0:=c0 _ rfl
   have d1:=ck 1 _ (by omega) rfl
   have d2:=ck 2 _ (by omega) rfl
   have d3:=ck 3 _ (by omega) rfl
   have d4:=ck 4 _ (by omega) rfl
   have d5:=ck 5 _ (by omega) rfl
   have HMORE:=hid (any_more (chLate X) hx)
   have HMEM:=hid (any_mem (chLate X) hx)
   obtain⟨xf,xt,xq,xc,xm,xl⟩:=x
   dsimp only at d0 d1 d2 d3 d4 d5
   have hbx:=bl1 wr (.cells #[.int .i64 xf,.int .i64 xt,.bool xq,.int .i64 xc,.int .u32 xm,.int .i64 xl] 42)
   have hb1:=hb.trans (hbx.mono hb.size)
   have HLT:=hid (late_any A4 n4 c4 L xf xt _ (hL0.on hb1) q4 q5 ht)
   have HB1:=hid hb1
   clear c0 ck hx hbx hb1
   go_wp2_with fail
   refine HLT.out.mono ?_
   rintro e w5 ⟨rfl,hb5⟩
   have e5:w5.cell? ⟨wr.heap.size,5,none⟩=some (.int .i64 xl):=(hb5.cell (p:=⟨wr.heap.size,5,none⟩) (by simp)).trans (World.cell?_alloc_mark _ _ _ _ _)
   have HB5:=hid (HB1.out.trans (hb5.mono HB1.out.size))
   clear hb5 HLT HB1 d0 d1 d2 d3 d4 d5
   rw[← HX.out]
   have hcl:chLate X ⟨xf,xt,xq,xc,xm,xl⟩=(decide (0 < xl) && (decide (lateL X xf xt < 0) || decide (xl < lateL X xf xt))):=rfl
   generalize lateL X xf xt=z at hcl ⊢
   generalize wr.heap.size=gx at e5 ⊢
   have HCL2:=hid hcl
   clear hcl
   by_cases t1:0 < xl
   ·have u1:decide (0 < xl)=true:=decide_eq_true t1
    by_cases t2:z < 0
    ·have u2:decide (z < 0)=true:=decide_eq_true t2
     have hres:R=19:=by
      rw[HR.out]
      exact holdsF_late (HMEM.out (by rw[HCL2.out,u1,u2];rfl))
     subst hres
     go_wp2_with fail
     go_ret
     exact Ans.mk rfl (hb0.trans (HB5.out.mono hb0.size))
    ·have u2:decide (z < 0)=false:=decide_eq_false t2
     by_cases t3:xl < z
     ·have u3:decide (xl < z)=true:=decide_eq_true t3
      have hres:R=19:=by
       rw[HR.out]
       exact holdsF_late (HMEM.out (by rw[HCL2.out,u1,u3];simp))
      subst hres
      go_wp2_with fail
      go_ret
      exact Ans.mk rfl (hb0.trans (HB5.out.mono hb0.size))
     ·have u3:decide (xl < z)=false:=decide_eq_false t3
      have HN:Hid ((C.take (i+1)).any (chLate X)=false):=hid (by rw[HMORE.out,HANY.out,HCL2.out,u1,u2,u3];rfl)
      go_wp2_with fail
      go_roundw
      case rel=>exact⟨i+1,by omega,by go_num,HN.out,HB5.out⟩
      case measure=>simp[intOf];omega
   ·have u1:decide (0 < xl)=false:=decide_eq_false t1
    have HN:Hid ((C.take (i+1)).any (chLate X)=false):=hid (by rw[HMORE.out,HANY.out,HCL2.out,u1];rfl)
    go_wp2_with fail
    go_roundw
    case rel=>exact⟨i+1,by omega,by go_num,HN.out,HB5.out⟩
    case measure=>simp[intOf];omega
  ·have hge:n2≤i:=by omega
   have HALL:Hid (C.any (chLate X)=false):=hid (by
    have h:=HANY.out
    rw[List.take_of_length_le (by rw[HCL.out];exact hge)] at h
    exact h)
   clear HANY
   have m0:=(hb.cell (p:=⟨g,0,none⟩) hgs).trans HM0.out
   go_wp2_with fail
   go_loopw [8,9,40] (fun _ _ s wx=>∃ j:Nat,j≤n1∧s=.int .i64 j∧shortF X 0 (P.take j)=false∧Below W.heap.size W wx) (fun _ _ s _=>n1 - (intOf s).toNat)
   case atStart=>exact⟨0,by omega,rfl,rfl,hb⟩
   case round =>
    obtain⟨j,hj,rfl,hsh,hb⟩:=hrel
    have HSH:=hid hsh
    clear hsh
    by_cases hlt:j < n1
    ·obtain⟨ad,x,rfl,had,hx,c0,ck⟩:=(hP0.on hb).at_ pcl_len (by omega) hlt
     have d0:=c0 _ rfl
     have d1:=ck 1 _ (by omega) rfl
     have d2:=ck 2 _ (by omega) rfl
     have d3:=ck 3 _ (by omega) rfl
     have d4:=ck 4 _ (by omega) rfl
     have d5:=ck 5 _ (by omega) rfl
     have d6:=ck 6 _ (by omega) rfl
     have d7:=ck 7 _ (by omega) rfl
     have d8:=ck 8 _ (by omega) rfl
     have d9:=ck 9 _ (by omega) rfl
     have d10:=ck 10 _ (by omega) rfl
     have hzx:=HZ.out x (List.mem_of_getElem? hx)
     have HSM:=hid (short_more (W:=X) hx)
     have HSE:=hid (short_mem (W:=X) hx)
     obtain⟨nm,bu,pe,sc,st,pa,pn,pc,h0,h1,h2,h3,h4⟩:=x
     dsimp only at d0 d1 d2 d3 d4 d5 d6 d7 d8 d9 d10 hzx
     have hbx:=bl1 wr (.cells #[.string nm,.int .i64 bu,.int .i64 pe,.bool sc,.bool st,.slice pa pn pc,.int .i64 h0,.int .i64 h1,.int .i64 h2,.int .i64 h3,.int .i64 h4] 68)
     have hb1:=hb.trans (hbx.mono hb.size)
     have f1:(wr.alloc (.cells #[.string nm,.int .i64 bu,.int .i64 pe,.bool sc,.bool st,.slice pa pn pc,.int .i64 h0,.int .i64 h1,.int .i64 h2,.int .i64 h3,.int .i64 h4] 68)).cell? ⟨wr.heap.size,1,none⟩=some (.int .i64 bu):=World.cell?_alloc_mark _ _ _ _ _
     have f2:(wr.alloc (.cells #[.string nm,.int .i64 bu,.int .i64 pe,.bool sc,.bool st,.slice pa pn pc,.int .i64 h0,.int .i64 h1,.int .i64 h2,.int .i64 h3,.int .i64 h4] 68)).cell? ⟨wr.heap.size,2,none⟩=some (.int .i64 pe):=World.cell?_alloc_mark _ _ _ _ _
     have hgx:wr.heap.size < (wr.alloc (.cells #[.string nm,.int .i64 bu,.int .i64 pe,.bool sc,.bool st,.slice pa pn pc,.int .i64 h0,.int .i64 h1,.int .i64 h2,.int .i64 h3,.int .i64 h4] 68)).heap.size:=by simp
     clear c0 ck hx hbx
     go_wp2_with fail
     generalize wr.alloc (.cells #[.string nm,.int .i64 bu,.int .i64 pe,.bool sc,.bool st,.slice pa pn pc,.int .i64 h0,.int .i64 h1,.int .i64 h2,.int .i64 h3,.int .i64 h4] 68)=W2 at hb1 f1 f2 hgx ⊢
     generalize wr.heap.size=gx at f1 f2 hgx ⊢
     have HB1:=hid hb1
     clear d0 d1 d2 d3 d4 d5 d6 d7 d8 d9 d10 hb1 had
     by_cases hbu:0 < bu
     ·have hbd:decide (0 < bu)=true:=decide_eq_true hbu
      have HBG:Hid (Calls Tryz.prog 50 #[.slice A4 n4 c4,.int .i64 (j:Int),.int .i64 pe] W2.drew fun e w5=>e=.returned (.int .i64 (budL (wordsL L) (j:Int) pe))∧Below W2.heap.size W2 w5∧w5.cell? ⟨gx,1,none⟩=some (.int .i64 bu)∧w5.cell? ⟨gx,2,none⟩=some (.int .i64 pe)):=hid (by
       refine(budget_any A4 n4 c4 L (j:Int) pe W2.drew ((hL0.on HB1.out).below (Below.refl _ _).drew) q4 q5 ht hzx).mono ?_
       rintro e w5 ⟨rfl,hb5⟩
       have hb6:Below W2.heap.size W2 w5:=⟨hb5.os,hb5.tape,hb5.output,hb5.size,hb5.block⟩
       exact⟨rfl,hb6,(hb6.cell (p:=⟨gx,1,none⟩) hgx).trans f1,(hb6.cell (p:=⟨gx,2,none⟩) hgx).trans f2⟩)
      rw[← HX.out] at HBG
      have hps:ptShort X j ⟨nm,bu,pe,sc,st,pa,pn,pc,h0,h1,h2,h3,h4⟩=(decide (0 < bu) && decide (budL X (j:Int) pe < bu)):=rfl
      generalize budL X (j:Int) pe=z at HBG hps
      rw[hbd,Bool.true_and] at hps
      have HPS:=hid hps
      clear hps
      go_region_with (go_at_call 50;refine HBG.out.mono ?_;rintro e w5 ⟨rfl,hb5,g1,g2⟩)
      all_goals
       by_cases t2:z < bu
       ·have u2:decide (z < bu)=true:=decide_eq_true t2
        have hres:R=20:=by
         rw[HR.out]
         exact holdsF_short HALL.out (HSE.out (by rw[HPS.out];exact u2))
        subst hres
        go_wp2_with fail
        go_ret
        exact Ans.mk rfl (hb0.trans ((HB1.out.trans (hb5.mono HB1.out.size)).mono hb0.size))
       ·have u2:decide (z < bu)=false:=decide_eq_false t2
        have HN:Hid (shortF X 0 (P.take (j+1))=false):=hid (by rw[HSM.out,HSH.out,HPS.out,u2];rfl)
        go_wp2_with fail
        go_roundw
        case rel=>exact⟨j+1,by omega,by go_num,HN.out,HB1.out.trans (hb5.mono HB1.out.size)⟩
        case measure=>simp[intOf];omega
     ·have hbd:decide (0 < bu)=false:=decide_eq_false hbu
      have hps:ptShort X j ⟨nm,bu,pe,sc,st,pa,pn,pc,h0,h1,h2,h3,h4⟩=(decide (0 < bu) && decide (budL X (j:Int) pe < bu)):=rfl
      rw[hbd,Bool.false_and] at hps
      have HN:Hid (shortF X 0 (P.take (j+1))=false):=hid (by rw[HSM.out,HSH.out,hps];rfl)
      clear hps
      go_quiet (fail)
      go_wp2_with fail
      go_roundw
      case rel=>exact⟨j+1,by omega,by go_num,HN.out,Below.drewN HB1.out nq⟩
      case measure=>simp[intOf];omega
    ·have hge:n1≤j:=by omega
     have hres:R=0:=by
      rw[HR.out]
      refine holdsF_ok HALL.out ?_
      have h:=HSH.out
      rw[List.take_of_length_le (by rw[HPL.out];exact hge)] at h
      exact h
     subst hres
     go_wp2_with fail
     go_ret
     exact Ans.mk rfl (hb0.trans (hb.mono hb0.size))
set_option maxRecDepth 100000 in
set_option maxHeartbeats 1600000 in
theorem alone_any (n:Nat) (w:World) (hn:n≤1024):Calls Tryz.prog 128 #[.int .i64 (n:Int)] w (MadG n (fun i j=>decide (i=j)) w):=by
 have hmk:=run_makeBB n (by omega)
 have hmb:=run_makeB n (by omega)
 obtain⟨B,hB⟩:∃ B,B=w.heap.size:=⟨_,rfl⟩
 have hb0:Below B w (w.alloc (.cells (madeCells #[.slice none 0 0] n) 95)):=by rw[hB];exact bl1 w _
 have hM0:=Mat.start w B n (by omega) 95 (fun i j=>decide (i=j)) (fun _=>0)
 have HB:=hid hB
 clear hB
 go_enter Tryz.func128,Tryz.ntmps128
 go_wp2_with fail
 generalize w.alloc (.cells (madeCells #[.slice none 0 0] n) 95)=W0 at hb0 hM0 ⊢
 generalize w.heap.size=g at hM0 ⊢
 clear hmk
 go_loopw [4,9] (fun _ s wr=>∃(i:Nat) (G:Nat→Nat),i≤n∧s=.int .i64 i∧Mat wr B g n i G (fun i j=>decide (i=j))∧Below B w wr) (fun _ s _=>n - (intOf s).toNat)
 case atStart=>exact⟨0,_,by omega,rfl,hM0,hb0⟩
 case round =>
  obtain⟨i,G,hi,rfl,hM,hb⟩:=hrel
  by_cases hlt:i < n
  ·have hbl:=bl1 wr (.cells (madeCells #[.bool false] n) 4)
   have hM1:=hM.on hbl
   have hV:Vec (wr.alloc (.cells (madeCells #[.bool false] n) 4)) wr.heap.size n fun _=>.bool false:=Vec.lit wr _ _ n _ fun j hj=>made_get _ n j hj
   have hgl:g < wr.heap.size:=by
    obtain⟨f,h1,_⟩:=hM.outer
    exact h1.lt
   have hBg:=hM.low
   have hb1:=hb.trans (hbl.mono (by omega))
   have hxG:∀ j,j < i→G j≠wr.heap.size:=fun j hj=>by
    have:=(hM.rows j hj).lt
    omega
   obtain⟨f,hf,_⟩:=hM1.outer
   have d0:=hf.cell i hlt
   have d1:=hf.thaw i
   have hM2:=hM1.push hV (by omega) (by omega) hxG hlt
   have hb2:=hb1.setCell (p:=⟨g,i,none⟩) hBg (.slice (some ⟨wr.heap.size,0,none⟩) n n)
   obtain⟨x,hx,_,_,_,_,k0,k1,k2,hst⟩:=hM2.at_ (i:=i) (j:=i) (by omega) (by omega) hlt
   rw[put1_same] at hx
   subst hx
   have HS:=hid (hst true)
   have HB2:=hid hb2
   clear hM hM1 hV hb1 hb2 hM2 hst hf hbl hgl hxG hBg
   go_wp2_with fail
   obtain⟨hM3,hb3⟩:=HS.out
   go_roundw
   case rel=>exact⟨i+1,_,by omega,by go_num,hM3.congr (fun a b ha hb=>by
    unfold put2
    by_cases e:a=i
    ·subst e
     by_cases e2:b=a
     ·subst e2;simp
     ·simp[e2];exact fun e=>e2 e.symm
    ·simp[e]),hb3 _ HB2.out⟩
   case measure=>simp[intOf];omega
  ·have hge:n≤i:=by omega
   obtain rfl:i=n:=by omega
   go_wp2_with fail
   go_ret
   exact⟨g,G,rfl,by rw[← HB.out];exact hM,by rw[← HB.out];exact hb⟩
set_option maxRecDepth 100000 in
set_option maxHeartbeats 1600000 in
theorem rsquare_any (n:Nat) (w:World) (hn:n≤1024):Calls Tryz.prog 52 #[.int .i64 (n:Int)] w (MadG n (fun i j=>decide (i=j)) w):=by
 have hmk:=run_makeBB n (by omega)
 have hmb:=run_makeB n (by omega)
 obtain⟨B,hB⟩:∃ B,B=w.heap.size:=⟨_,rfl⟩
 have hb0:Below B w (w.alloc (.cells (madeCells #[.slice none 0 0] n) 95)):=by rw[hB];exact bl1 w _
 have hM0:=Mat.start w B n (by omega) 95 (fun i j=>decide (i=j)) (fun _=>0)
 have HB:=hid hB
 clear hB
 go_enter Tryz.func52,Tryz.ntmps52
 go_wp2_with fail
 generalize w.alloc (.cells (madeCells #[.slice none 0 0] n) 95)=W0 at hb0 hM0 ⊢
 generalize w.heap.size=g at hM0 ⊢
 clear hmk
 go_loopw [4,9] (fun _ s wr=>∃(i:Nat) (G:Nat→Nat),i≤n∧s=.int .i64 i∧Mat wr B g n i G (fun i j=>decide (i=j))∧Below B w wr) (fun _ s _=>n - (intOf s).toNat)
 case atStart=>exact⟨0,_,by omega,rfl,hM0,hb0⟩
 case round =>
  obtain⟨i,G,hi,rfl,hM,hb⟩:=hrel
  by_cases hlt:i < n
  ·have hbl:=bl1 wr (.cells (madeCells #[.bool false] n) 4)
   have hM1:=hM.on hbl
   have hV:Vec (wr.alloc (.cells (madeCells #[.bool false] n) 4)) wr.heap.size n fun _=>.bool false:=Vec.lit wr _ _ n _ fun j hj=>made_get _ n j hj
   have hgl:g < wr.heap.size:=by
    obtain⟨f,h1,_⟩:=hM.outer
    exact h1.lt
   have hBg:=hM.low
   have hb1:=hb.trans (hbl.mono (by omega))
   have hxG:∀ j,j < i→G j≠wr.heap.size:=fun j hj=>by
    have:=(hM.rows j hj).lt
    omega
   obtain⟨f,hf,_⟩:=hM1.outer
   have d0:=hf.cell i hlt
   have d1:=hf.thaw i
   have hM2:=hM1.push hV (by omega) (by omega) hxG hlt
   have hb2:=hb1.setCell (p:=⟨g,i,none⟩) hBg (.slice (some ⟨wr.heap.size,0,none⟩) n n)
   obtain⟨x,hx,_,_,_,_,k0,k1,k2,hst⟩:=hM2.at_ (i:=i) (j:=i) (by omega) (by omega) hlt
   rw[put1_same] at hx
   subst hx
   have HS:=hid (hst true)
   have HB2:=hid hb2
   clear hM hM1 hV hb1 hb2 hM2 hst hf hbl hgl hxG hBg
   go_wp2_with fail
   obtain⟨hM3,hb3⟩:=HS.out
   go_roundw
   case rel=>exact⟨i+1,_,by omega,by go_num,hM3.congr (fun a b ha hb=>by
    unfold put2
    by_cases e:a=i
    ·subst e
     by_cases e2:b=a
     ·subst e2;simp
     ·simp[e2];exact fun e=>e2 e.symm
    ·simp[e]),hb3 _ HB2.out⟩
   case measure=>simp[intOf];omega
  ·have hge:n≤i:=by omega
   obtain rfl:i=n:=by omega
   go_wp2_with fail
   go_ret
   exact⟨g,G,rfl,by rw[← HB.out];exact hM,by rw[← HB.out];exact hb⟩
def sqB (n:Nat) (l:Nat→Nat):Bool:=(List.range n).all fun i=>decide (l i=n)
def MadN (l:List Nat) (w:World) (e:Ending) (w':World):Prop:=∃ A c,e=.returned (.slice A l.length c)∧OwnV 3 1 w' w.heap.size A l.length c (is (l.map fun x:Nat=>(x:Int)))∧Below w.heap.size w w'
set_option maxHeartbeats 400000 in
theorem has_any (A1 A2 A3:Option Addr) (n1 n2 n3 c1 c2 c3:Nat) (p:Int) (w:World):Calls Tryz.prog 156 #[.agg #[.slice A1 n1 c1,.slice A2 n2 c2,.slice A3 n3 c3],.int .i64 p] w (Ans (.bool (inP n1 p)) w):=by
 go_enter Tryz.func156,Tryz.ntmps156
 go_wp2
 all_goals
  go_ret
  refine Ans.mk (congrArg Value.bool ?_) (bl1 _ _)
  rw[Bool.eq_iff_iff,inP_iff]
  simp only[decide_eq_true_eq,Bool.false_eq_true,iff_false] at *
  omega
set_option maxHeartbeats 400000 in
theorem in_any (A1 A2 A3:Option Addr) (n1 n2 n3 c1 c2 c3:Nat) (p:Int) (w:World):Calls Tryz.prog 53 #[.agg #[.slice A1 n1 c1,.slice A2 n2 c2,.slice A3 n3 c3],.int .i64 p] w (Ans (.bool (inP n1 p)) w):=by
 go_enter Tryz.func53,Tryz.ntmps53
 go_wp2
 all_goals
  go_ret
  refine Ans.mk (congrArg Value.bool ?_) (bl1 _ _)
  rw[Bool.eq_iff_iff,inP_iff]
  simp only[decide_eq_true_eq,Bool.false_eq_true,iff_false] at *
  omega
structure Sl where
 a:Option Addr
 c:Nat
 l:List Nat
def Sl.v (s:Sl):Value:=.slice s.a s.l.length s.c
def SlOk (w:World) (B:Nat) (s:Sl):Prop:=s.l.length≤s.c∧s.l.length≤1048576∧RdI w B s.a s.l.length (s.l.map fun x:Nat=>(x:Int))
def unw (w:World) (h n:Nat):Nat:=un n fun j=>match w.cell? ⟨h,j,none⟩ with | some (.bool b)=>b | _=>false
theorem Vec.unw {w:World} {h n:Nat} {M:Nat→Bool} (hv:Vec w h n fun j=>.bool (M j)):unw w h n=un n M:=by
 unfold Go.Proofs.YtfddpnhaejkacaaGreat.unw
 exact un_congr fun j hj=>by rw[hv.cell j hj]
theorem OwnV.keep' {E s B n c:Nat} {w w':World} {A:Option Addr} {l:List Value} (h:OwnV E s w B A n c l) (hk:∀ g,obk A=some g→w'.heap[g]? = w.heap[g]?):OwnV E s w' B A n c l:=by
 refine⟨h.1,?_⟩
 rcases h.2 with hv | ⟨g,cap,cur,hv,hbg,hg,r⟩
 ·exact .inl hv
 ·exact .inr ⟨g,cap,cur,hv,hbg,by rw[hk g (by injection hv with h1;rw[h1];rfl)];exact hg,r⟩
def LedP (n:Nat) (S:Nat→List Nat) (F:List Nat) (w:World) (e:Ending) (w':World):Prop :=
 ∃(h:Nat) (M:Nat→Bool),e=.returned (.slice (some ⟨h,0,none⟩) n n)∧Vec w' h n (fun j=>.bool (M j))∧w.heap.size≤h∧Below w.heap.size w w'∧∀ a,M a=true↔Rch S F a
theorem OwnV.obk_ge {E s B n c b:Nat} {w:World} {A:Option Addr} {l:List Value} (h:OwnV E s w B A n c l) (hA:obk A=some b):B≤b∧b < w.heap.size:=by
 rcases h.2 with ⟨hv,_⟩ | ⟨g,cap,cur,hv,hbg,hg,_⟩
 ·injection hv with h1
  subst h1
  cases hA
 ·injection hv with h1
  subst h1
  injection hA with hA
  have hA:g=b:=hA
  subst hA
  exact⟨hbg,(Array.getElem?_eq_some_iff.1 hg).1⟩
def cast (l:List Nat):List Int:=l.map fun x:Nat=>(x:Int)
structure Stp (w:World) (B g n k:Nat) (R:Nat→Option Addr×Nat) (S:Nat→List Nat):Prop where
 outer:∃ f,Vec w g n f∧∀ i,i < k→f i=.slice (R i).1 (S i).length (R i).2
 rows:∀ i,i < k→OwnV 3 1 w B (R i).1 (S i).length (R i).2 (is (cast (S i)))
 low:B≤g
 ne:∀ i,i < k→obk (R i).1≠some g
 inj:∀ i j b,i < k→j < k→i≠j→obk (R i).1=some b→obk (R j).1≠some b
section
variable {w w':World} {g n k B:Nat} {R:Nat→Option Addr×Nat} {S:Nat→List Nat}
theorem Stp.on (h:Stp w B g n k R S) (hb:Below w.heap.size w w'):Stp w' B g n k R S:=by
 obtain⟨f,h1,h2⟩:=h.outer
 exact⟨⟨f,h1.on hb,h2⟩,fun i hi=>(h.rows i hi).below rfl hb,h.low,h.ne,h.inj⟩
theorem Stp.push (h:Stp w B g n k R S) {A:Option Addr} {c:Nat} {l:List Nat} (hx:OwnV 3 1 w B A l.length c (is (cast l))) (hg:obk A≠some g) (hA:∀ i b,i < k→obk (R i).1=some b→obk A≠some b) (hk:k < n) :
  Stp (w.setCell ⟨g,k,none⟩ (.slice A l.length c)) B g n (k+1) (put1 R k (A,c)) (put1 S k l):=by
 obtain⟨f,h1,h2⟩:=h.outer
 have hlt:∀ i,i < k+1→i≠k→i < k:=fun i _ _=>by omega
 have hset:∀ A n c l,OwnV 3 1 w B A n c l→obk A≠some g→∀ v,OwnV 3 1 (w.setCell ⟨g,k,none⟩ v) B A n c l:=fun A n c l ho hne v =>
  ho.keep' fun b hb=>Below.heap_setCell _ _ _ _ fun e=>hne (by rw[hb];exact congrArg some e)
 refine⟨⟨_,h1.set k _,fun i hi=>?_⟩,fun i hi=>?_,h.low,fun i hi=>?_,fun i j b hi hj hij e=>?_⟩
 ·by_cases e:i=k
  ·subst e;rw[put1_same,put1_same,put1_same]
  ·rw[put1_other e,put1_other e,put1_other e];exact h2 i (hlt i hi e)
 ·by_cases e:i=k
  ·subst e;rw[put1_same,put1_same];exact hset _ _ _ _ hx hg _
  ·rw[put1_other e,put1_other e];exact hset _ _ _ _ (h.rows i (hlt i hi e)) (h.ne i (hlt i hi e)) _
 ·by_cases e:i=k
  ·subst e;rw[put1_same];exact hg
  ·rw[put1_other e];exact h.ne i (hlt i hi e)
 ·by_cases e1:i=k
  ·subst e1
   have e2:j≠i:=fun e=>hij e.symm
   rw[put1_same] at e
   rw[put1_other e2]
   exact fun e3=>hA j b (hlt j hj e2) e3 e
  ·rw[put1_other e1] at e
   by_cases e2:j=k
   ·subst e2;rw[put1_same];exact hA i b (hlt i hi e1) e
   ·rw[put1_other e2];exact h.inj i j b (hlt i hi e1) (hlt j hj e2) hij e
theorem RdS.congr {A:Option Addr} {T:Nat→List Nat} (h:RdS w B A n S) (e:∀ i,i < n→S i=T i):RdS w B A n T:=by
 obtain⟨R,h1,h2⟩:=h
 exact⟨R,h1.congr fun i hi=>by rw[e i hi],fun i hi=>by rw[← e i hi];exact h2 i hi⟩
end
theorem Mat.weak {w:World} {B B' g n k:Nat} {G:Nat→Nat} {m:Nat→Nat→Bool} (h:Mat w B g n k G m) (hB:B'≤B):Mat w B' g n k G m :=
 ⟨h.outer,h.rows,Nat.le_trans hB h.low,fun i hi=>Nat.le_trans hB (h.ge i hi),h.ne,h.inj⟩
end Go.Proofs.YtfddpnhaejkacaaGreat
