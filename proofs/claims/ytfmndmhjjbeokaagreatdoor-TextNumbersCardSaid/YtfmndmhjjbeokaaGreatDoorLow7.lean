import Derived.Test.YtfmndmhjjbeokaaGreatDoorLow6
import Derived.Orders
import Derived.RegionTactic
import Derived.Below
import Derived.IntWalk
import Derived.BigQuiet
import Derived.Deep.CutRange
set_option linter.unusedSimpArgs false
set_option linter.unusedVariables false
namespace Go.Proofs.YtfmndmhjjbeokaaGreatDoor
open Go.RowKit Tab
structure Vec(w:World)(g n:Nat)(f:Nat->Value):Prop where
 cell:∀ j,j < n->w.cell? ⟨g,j,none⟩=some (f j)
 thaw:∀ j,w.frozen? ⟨g,j,none⟩=false
 lt:g < w.heap.size
section
variable {w w':World} {g n B:Nat} {f f':Nat->Value}
theorem Vec.keep(h:Vec w g n f)(hk:w'.heap[g]? = w.heap[g]?)(hs:w.heap.size<=w'.heap.size):Vec w' g n f :=
 ⟨fun j hj=>(Bf hk).trans (h.cell j hj),fun j=>(C4 hk).trans (h.thaw j),Bc h.lt hs⟩
theorem Vec.below(h:Vec w g n f)(hb:Below B w w')(hg:g < B):Vec w' g n f:=h.keep (hb.block g hg) hb.size
theorem Vec.on(h:Vec w g n f)(hb:Below w.heap.size w w'):Vec w' g n f:=h.below hb h.lt
theorem Vec.congr(h:Vec w g n f)(e:∀ j,j < n->f j=f' j):Vec w g n f':=⟨fun j hj=>by rw[<- e j hj];exact h.cell j hj,h.thaw,h.lt⟩
theorem Vec.set(h:Vec w g n f)(i:Nat)(v:Value):Vec (w.setCell ⟨g,i,none⟩ v) g n (put1 f i v):=by
 refine⟨fun j hj=>?_,fun j=>by simpa using h.thaw j,by simpa using h.lt⟩;by_cases e:j=i
 ·subst e;rw[put1_same];exact Ci _ _ _ (h.cell j hj)
 rw[put1_other e,Cg _ _ _ _ (by intro e2;injection e2 with _ e3;omega)];exact h.cell j hj
theorem Vec.drewN(h:Vec w g n f)(q:Nat):Vec (w.drewN q) g n f:=⟨h.cell,h.thaw,h.lt⟩
theorem Vec.lit(w:World)(C:Array Value)(t:TypeId)(n:Nat)(f:Nat->Value)(h:∀ j,j < n->C[j]? = some (f j)):Vec (w.alloc (.cells C t)) w.heap.size n f :=
 ⟨fun j hj=>(Ab _ _ _ _ _).trans (h j hj),fun j=>by simp,by simp⟩
end
theorem Sv(z:Value)(n j:Nat)(h:j < n):(madeCells #[z] n)[j]? = some z:=by
 rw[<- Array.getElem?_toList,toList_madeCells_one];simp[h]
structure Mat(w:World)(B g n k:Nat)(G:Nat->Nat)(m:Nat->Nat->Bool):Prop where
 outer:∃ f,Vec w g n f/\∀ i,i < k->f i=.slice (some ⟨G i,0,none⟩) n n
 rows:∀ i,i < k->Vec w (G i) n fun j=>.bool (m i j)
 low:B<=g
 ge:∀ i,i < k->B<=G i
 ne:∀ i,i < k->G i≠g
 inj:∀ i j,i < k->j < k->G i=G j->i=j
section
variable {w w':World} {g n k B:Nat} {G:Nat->Nat} {m m':Nat->Nat->Bool}
end
section
variable {w w':World} {n B B':Nat} {A:Option Addr} {l:Nat->Nat} {m m':Nat->Nat->Bool}
end
section
variable {w w':World} {n B B':Nat} {A:Option Addr} {S:Nat->List Nat}
end
end Go.Proofs.YtfmndmhjjbeokaaGreatDoor
namespace Go.Proofs.YtfmndmhjjbeokaaGreatDoor
open Go Go.RowKit
namespace Reg
def dstN(ops:Array Oper)(j:Nat):Tmp:=((ops[j]?).bind (·.dst)).getD 0
def waits(o:Oper)(j:Nat):Bool:=o.after.toList.any fun e=>e.on == j && Region.binds .any e
def writes(ops:Array Oper)(t:Tmp):Bool:=ops.toList.any fun o=>o.dst == some t
def good(ops:Array Oper)(n:Nat):Bool :=
 (List.range ops.size).all fun i=>match ops[i]? with
  | some o=>(match o.dst with
    | some d=>decide (d < n) && (List.range ops.size).all fun j=>j == i || (match ops[j]? with | some p=>!(p.dst == some d) | none=>true)
    | none=>false) && o.after.toList.all fun e=>decide (e.on < i)
  | none=>false
theorem good_at{ops:Array Oper}{n:Nat}(h:good ops n=true){i:Nat}{o:Oper}(hi:ops[i]? = some o):
  ∃ d,o.dst=some d/\d < n/\(∀ j p,ops[j]? = some p->j≠i->p.dst≠some d)/\∀ e∈o.after,e.on < i:=by
 have aB:i < ops.size:=(Bt.1 hi).1;have h1:=Ct.1 h i (Cx.2 aB);rw[hi] at h1;simp only[Au] at h1;obtain⟨h2,h3⟩:=h1;cases hd:o.dst with
 | none=>rw[hd] at h2;cases h2
 | some d =>
  rw[hd] at h2;simp only[Au,decide_eq_true_iff] at h2;refine⟨d,rfl,h2.1,fun j p hj aA=>?_,fun e he=>?_⟩
  ·have aC:j < ops.size:=(Bt.1 hj).1;have h4:=Ct.1 h2.2 j (Cx.2 aC);rw[hj] at h4;simp only[Dh,Ck,Bool.not_eq_true',Ak] at h4;exact h4.resolve_left aA
  have:=Ct.1 h3 e (Array.mem_toList_iff.2 he);simpa using this
theorem dst_of{ops:Array Oper}{i:Nat}{o:Oper}{d:Tmp}(hi:ops[i]? = some o)(hd:o.dst=some d):dstN ops i=d:=by
 simp[dstN,hi,hd]
def Closed(ops:Array Oper)(live:Nat->Bool):Prop:=∀ j p,ops[j]? = some p->live j=true->∀ k,waits p k=true->live k=true
structure Inv(ops:Array Oper)(a0:Act)(V:Nat->Value->World->Prop)(W:World->Prop)(listed:Array Bool)(a:Act)(w:World):Prop where
 size:a.tmps.size=a0.tmps.size
 defers:a.defers=a0.defers
 env:∀ t,writes ops t=false->a.eval (.tmp t)=a0.eval (.tmp t)
 val:∀ j,j < ops.size->listed.getD j false=true->V j (a.eval (.tmp (dstN ops j))) w
 world:W w
 closed:Closed ops fun j=>listed.getD j false
theorem eval_same(a:Act)(d:Tmp)(v:Value)(h:d < a.tmps.size):(a.put (some d) v).eval (.tmp d)=v:=by
 simp[Act.eval,Act.put,h]
theorem eval_other(a:Act)(d t:Tmp)(v:Value)(h:d≠t):(a.put (some d) v).eval (.tmp t)=a.eval (.tmp t):=by
 simp[Act.eval,Act.put,Array.getElem?_setIfInBounds_ne h]
def Owes(live:Nat->Bool)(V:Nat->Value->World->Prop)(W:World->Prop)(i:Nat)(o:Oper)(a:Act)(w:World)(a':Act)(w':World):Prop :=
 ∃ v,a'=a.put o.dst v/\V i v w'/\W w'/\∀ j v,live j=true->V j v w->V j v w'
theorem Inv.step{ops:Array Oper}{a0:Act}{V:Nat->Value->World->Prop}{W:World->Prop}{aA:Array Bool}{a a':Act}{w w':World}(hg:good ops a0.tmps.size=true)
  {i:Nat} {o:Oper} (hi:ops[i]? = some o) (h:Inv ops a0 V W aA a w) (hr:∀ k,waits o k=true->aA.getD k false=true) (hs:Owes (fun j=>aA.getD j false) V W i o a w a' w'):Inv ops a0 V W (aA.setIfInBounds i true) a' w':=by
 obtain⟨v,rfl,hv,hw,hm⟩:=hs;obtain⟨d,hd,aG,aC,_⟩:=good_at hg hi;have aF:d < a.tmps.size:=by rw[h.size];exact aG
 rw[hd];refine⟨by simp[Act.put,h.size],by simp[Act.put,h.defers],fun t ht=>?_,fun j hj hl=>?_,hw,fun j p hj hl k hk=>?_⟩
 ·have aD:d≠t:=by
   rintro rfl;have:writes ops d=true:=Ds.2 ⟨o,Array.mem_toList_iff.2 (Array.mem_of_getElem? hi),by simp[hd]⟩;rw[this] at ht;cases ht
  rw[eval_other _ _ _ _ aD];exact h.env t ht
 ·by_cases aB:j=i
  ·subst aB;rw[dst_of hi hd,eval_same _ _ _ aF];exact hv
  obtain⟨p,hp⟩:∃ p,ops[j]? = some p:=⟨_,Array.getElem?_eq_getElem hj⟩;obtain⟨e,he,_⟩:=good_at hg hp;have aD:d≠dstN ops j:=by
   rw[dst_of hp he];rintro rfl;exact aC j p hp aB he
  rw[eval_other _ _ _ _ aD];rw[getD_set_ne false (Ne.symm aB)] at hl;exact hm j _ hl (h.val j hj hl)
 by_cases aB:j=i
 ·subst aB;rw[hi] at hj;injection hj with hj;subst hj;exact getD_set_true (hr k hk)
 have aE:(aA.setIfInBounds i true).getD j false=true:=hl;rw[getD_set_ne false (Ne.symm aB)] at aE;exact getD_set_true (h.closed j p hj aE k hk)
def left(listed:Array Bool):Nat:=listed.toList.countP (· == false)
theorem left_set{aA:Array Bool}{i:Nat}(h:aA.getD i true=false):left (aA.setIfInBounds i true)+1=left aA:=by
 have aB:i < aA.size:=by
  rcases Bk i aA.size with h' | h'
  ·exact h'
  simp[Dn h'] at h
 have hi:aA.toList[i]'(by simpa using aB)=false:=by
  simpa [aB] using h
 unfold left;rw[Array.toList_setIfInBounds,List.countP_set (by simpa using aB),hi];have:0 < aA.toList.countP (· == false):=List.countP_pos_iff.2 ⟨false,by rw[<- hi];exact List.getElem_mem _,rfl⟩;rw[if_pos (by decide),if_neg (by decide)];omega
theorem all_listed{ops:Array Oper}{n:Nat}(hg:good ops n=true){aA:Array Bool}(hs:aA.size=ops.size)(hr:Region.ready .any ops aA=[]):
  ∀ j,j < ops.size->aA.getD j false=true:=by
 intro j;induction j using Nat.strongRecOn with
 | ind j ih =>
  intro hj;have aC:j < aA.size:=by omega
  cases hb:aA.getD j false with
  | true=>rfl
  | false =>
   have aD:aA.getD j true=false:=by
    simpa [aC] using hb
   obtain⟨o,ho⟩:∃ o,ops[j]? = some o:=⟨_,Array.getElem?_eq_getElem hj⟩;obtain⟨_,_,_,_,aB⟩:=good_at hg ho;have:j∈Region.ready .any ops aA:=mem_ready.2 ⟨aD,o,ho,fun e he _=>ih e.on (aB e he) (by have:=aB e he;omega)⟩;rw[hr] at this;cases this
def Goal(P:Program)(ops:Array Oper)(Q:Exit->Act->World->Prop)(V:Nat->Value->World->Prop)(W:World->Prop)(i:Nat)(o:Oper)(a:Act)(w:World):Prop :=
 ∀ live:Nat->Bool,Closed ops live->live i=false->wpOp P ops Q i (Owes live V W i o a w) a w
def Steps(P:Program)(ops:Array Oper)(Q:Exit->Act->World->Prop)(a0:Act)(V:Nat->Value->World->Prop)(W:World->Prop):Prop :=
 ∀ i o,ops[i]? = some o->∀(a:Act) (w:World),(∀ t,writes ops t=false->a.eval (.tmp t)=a0.eval (.tmp t))->
  (∀ j,waits o j=true->V j (a.eval (.tmp (dstN ops j))) w)->W w->Goal P ops Q V W i o a w
theorem any_of{P:Program}{ops:Array Oper}{Q:Exit->Act->World->Prop}{a0:Act}{V:Nat->Value->World->Prop}{W:World->Prop}(hg:good ops a0.tmps.size=true)(aH:Steps P ops Q a0 V W)
  (aD:∀ aA a w,Inv ops a0 V W aA a w->(∀ j,j < ops.size->aA.getD j false=true)->Q .normal a w) :
  ∀(fuel:Nat) (aA:Array Bool) (a:Act) (w:World),aA.size=ops.size->left aA<=fuel->Inv ops a0 V W aA a w->wpAny P .any ops Q fuel aA a w:=by
 intro fuel;induction fuel with
 | zero =>
  intro aA a w hs hl h;have hr:Region.ready .any ops aA=[]:=by
   cases hc:Region.ready .any ops aA with
   | nil=>rfl
   | cons i r =>
    have hi:i∈Region.ready .any ops aA:=by rw[hc];exact List.mem_cons_self
    have:=left_set (mem_ready.1 hi).1;omega
  exact⟨hr,aD aA a w h (all_listed hg hs hr)⟩
 | succ fuel ih =>
  intro aA a w hs hl h;refine⟨fun hr=>aD aA a w h (all_listed hg hs hr),fun i hi=>?_⟩;obtain⟨h0,o,ho,aE⟩:=mem_ready.1 hi;have aJ:i < ops.size:=(Bt.1 ho).1;have aB:∀ k,waits o k=true->k < i/\aA.getD k false=true:=fun k hk=>by
   obtain⟨e,he,aG⟩:=Ds.1 hk;have he:=Array.mem_toList_iff.1 he;simp only[Au,Ck] at aG;obtain⟨rfl,hb⟩:=aG;obtain⟨_,_,_,_,aF⟩:=good_at hg ho;exact⟨aF e he,aE e he hb⟩
  have aC:=aH i o ho a w h.env (fun j hj=>h.val j (by have:=(aB j hj).1;omega) (aB j hj).2) h.world (fun j=>aA.getD j false) h.closed (by
   have aI:i < aA.size:=by omega
   simpa [aI] using h0)
  refine wpOp_mono (fun a' w' hw=>?_) aC;refine ih _ a' w' (by simpa using hs) ?_ (h.step hg ho (fun k hk=>(aB k hk).2) hw);have:=left_set h0;omega
theorem region{P:Program}{id:Nat}{ops:Array Oper}{Q:Exit->Act->World->Prop}{a0:Act}{w0:World}(hm:P.follows .mixedOrders=true)(hg:good ops a0.tmps.size=true)(V:Nat->Value->World->Prop)(W:World->Prop)
  (hW:W w0.drew) (aD:Steps P ops Q a0 V W)
  (aB:∀ a w,a.tmps.size=a0.tmps.size->a.defers=a0.defers->(∀ t,writes ops t=false->a.eval (.tmp t)=a0.eval (.tmp t))->(∀ j,j < ops.size->V j (a.eval (.tmp (dstN ops j))) w)->W w->Q .normal a w) :
  (Code.region id ops true).wp P Q a0 w0:=by
 refine wp_region_any hm ?_;refine any_of hg aD (fun aA a w h aC=>aB a w h.size h.defers h.env (fun j hj=>h.val j hj (aC j hj)) h.world) ops.size (Array.replicate ops.size false) a0 w0.drew (by simp) ?_ ?_
 ·unfold left;have:=List.countP_le_length (p:=(· == false)) (l:=(Array.replicate ops.size false).toList);simpa using this
 refine⟨rfl,rfl,fun _ _=>rfl,fun j hj hl=>?_,hW,fun j p hj hl k hk=>?_⟩
 ·simp[hj] at hl
 have aF:j < ops.size:=(Bt.1 hj).1;have aE:(Array.replicate ops.size false).getD j false=true:=hl;simp[aF] at aE
def All(F:Nat->Oper->Prop):Nat->List Oper->Prop
 | _,[]=>True
 | i,o::l=>F i o/\All F (i+1) l
theorem All.get{F:Nat->Oper->Prop}(l:List Oper):∀(i:Nat),All F i l->∀ j o,l[j]? = some o->F (i+j) o:=by
 induction l with
 | nil=>intro i _ j o hp;simp at hp
 | cons q l ih =>
  intro i h j o hp;cases j with
  | zero=>simp at hp;subst hp;exact h.1
  | succ j =>
   have:=ih (i+1) h.2 j o (by simpa using hp);rwa [Nat.add_assoc,Nat.add_comm 1] at this
theorem steps_of{P:Program}{l:List Oper}{Q:Exit->Act->World->Prop}{a0:Act}{V:Nat->Value->World->Prop}{W:World->Prop}
  (h:All (fun i o=>∀(a:Act) (w:World),(∀ t,writes l.toArray t=false->a.eval (.tmp t)=a0.eval (.tmp t))->
   (∀ j,waits o j=true->V j (a.eval (.tmp (dstN l.toArray j))) w)->W w->Goal P l.toArray Q V W i o a w) 0 l):Steps P l.toArray Q a0 V W:=by
 intro i o hi;have:=All.get l 0 h i o (by simpa using hi);rwa [Dr] at this
section
variable {P:Program} {ops:Array Oper} {Q:Exit->Act->World->Prop} {V:Nat->Value->World->Prop} {W:World->Prop} {i:Nat} {o:Oper} {a:Act} {w:World}
theorem val(hi:ops[i]? = some o)(hw:Region.wanted o (yielded ops a.tmps)=true)(hW:W w)(v:Value)(hr:(execOp a.eval o).run P w=.ok (.value v) w)(hv:V i v w):Goal P ops Q V W i o a w:=by
 intro live _ _;unfold wpOp;rw[hi];simp only[hw,if_true];refine .inl ?_;unfold Oper.wp;rw[hr];exact⟨v,rfl,hv,hW,fun _ _ _ h=>h⟩
theorem growL(hi:ops[i]? = some o)(hw:Region.wanted o (yielded ops a.tmps)=true)(v:Value)(w':World)(hr:(execOp a.eval o).run P w=.ok (.value v) w')(hv:V i v w')(hW:W w')
  (hm:∀ live:Nat->Bool,Closed ops live->live i=false->∀ j v,live j=true->V j v w->V j v w'):Goal P ops Q V W i o a w:=by
 intro live hc h0;unfold wpOp;rw[hi];simp only[hw,if_true];refine .inl ?_;unfold Oper.wp;rw[hr];exact⟨v,rfl,hv,hW,hm live hc h0⟩
theorem grow(hi:ops[i]? = some o)(hw:Region.wanted o (yielded ops a.tmps)=true)(v:Value)(w':World)(hr:(execOp a.eval o).run P w=.ok (.value v) w')(hv:V i v w')(hW:W w')(hm:∀ j v,j≠i->V j v w->V j v w'):Goal P ops Q V W i o a w :=
 growL hi hw v w' hr hv hW fun live _ h0 j v hj h=>hm j v (fun e=>by rw[e,h0] at hj;cases hj) h
theorem call(hi:ops[i]? = some o)(hw:Region.wanted o (yielded ops a.tmps)=true)(f:FuncId)(args:Array Value)(hr:(execOp a.eval o).run P w=.ok (.enter f args) w)
  (hc:Calls P f args w fun e w'=>∃ v,e=.returned v/\V i v w'/\W w'/\∀ j v,V j v w->V j v w'):Goal P ops Q V W i o a w:=by
 intro live _ _;unfold wpOp;rw[hi];simp only[hw,if_true];refine .inl ?_;unfold Oper.wp;rw[hr];refine hc.mono fun e w' he=>?_;obtain⟨v,rfl,h1,h2,h3⟩:=he;exact⟨v,rfl,h1,h2,fun j v _=>h3 j v⟩
theorem skip(hi:ops[i]? = some o)(hw:Region.wanted o (yielded ops a.tmps)=false)(hW:W w)(hv:V i undef w):Goal P ops Q V W i o a w:=by
 intro live _ _;unfold wpOp;rw[hi];simp only[hw];exact⟨undef,rfl,hv,hW,fun _ _ _ h=>h⟩
theorem not_live{live:Nat->Bool}(hc:Closed ops live){k:Nat}(h:live k=false){j:Nat}{p:Oper}(hj:ops[j]? = some p)(hw:waits p k=true):live j=false:=by
 cases e:live j with
 | false=>rfl
 | true=>rw[hc j p hj e k hw] at h;cases h
theorem wanted_free(h:o.guard=none):Region.wanted o (yielded ops a.tmps)=true:=by simp[Region.wanted,h]
theorem wanted_if{g:Nat}{aA b:Bool}(h:o.guard=some (g,aA)){t:Tmp}(ht:(ops[g]?).bind (·.dst)=some t)(hv:a.eval (.tmp t)=.bool b)(hb:(b == aA)=true):Region.wanted o (yielded ops a.tmps)=true:=by
 have aB:t < a.tmps.size:=by
  rcases Bk t a.tmps.size with h' | h'
  ·exact h'
  simp[Act.eval,Dn h',undef] at hv
 have h2:a.tmps[t]? = some (.bool b):=by
  simpa [Act.eval,aB] using hv
 simp only[Region.wanted,h,yielded,ht,As,h2];have:b=aA:=by simpa using hb
 simp[this]
end
theorem consts(a:Act):(∀ v,a.eval (.const v)=v)/\(∀ f,a.eval (.func f)=.func (.func f) #[] #[]):=⟨fun _=>rfl,fun _=>rfl⟩
theorem act_lit(a:Act)(n:Nat)(h:a.tmps.size=n):a=⟨((List.range n).map fun t=>a.eval (.tmp t)).toArray,a.defers⟩:=by
 cases a with
 | mk aA defers =>
  simp only at h;congr 1;apply Array.ext
  ·simp[h]
  intro i h1 h2;simp[Act.eval,h1]
end Reg
end Go.Proofs.YtfmndmhjjbeokaaGreatDoor
namespace Go.Proofs.YtfmndmhjjbeokaaGreatDoor
open Go.RowKit Tab
structure ChV where
 from_:Int
 to_:Int
 queue:Bool
 cap:Int
 max:Int
 late:Int
structure PtV where
 name:ByteArray
 bud:Int
 per:Int
 sched:Bool
 stop:Bool
 pa:Option Addr
 pn:Nat
 pc:Nat
 h0:Int
 h1:Int
 h2:Int
 h3:Int
 h4:Int
abbrev cv(x:ChV):Value:=.agg #[.int .i64 x.from_,.int .i64 x.to_,.bool x.queue,.int .i64 x.cap,.int .u32 x.max,.int .i64 x.late]
abbrev pv(x:PtV):Value:=.agg #[.string x.name,.int .i64 x.bud,.int .i64 x.per,.bool x.sched,.bool x.stop,.slice x.pa x.pn x.pc,.int .i64 x.h0,.int .i64 x.h1,.int .i64 x.h2,.int .i64 x.h3,.int .i64 x.h4]
structure Sl where
 a:Option Addr
 c:Nat
 l:List Nat
theorem OwnV.keep'{E s B n c:Nat}{w w':World}{A:Option Addr}{l:List Value}(h:OwnV E s w B A n c l)(hk:∀ g,obk A=some g->w'.heap[g]? = w.heap[g]?):OwnV E s w' B A n c l:=by
 refine⟨h.1,?_⟩;rcases h.2 with hv | ⟨g,cap,aB,hv,aA,hg,r⟩
 ·exact .inl hv
 exact .inr ⟨g,cap,aB,hv,aA,by rw[hk g (by injection hv with h1;rw[h1];rfl)];exact hg,r⟩
