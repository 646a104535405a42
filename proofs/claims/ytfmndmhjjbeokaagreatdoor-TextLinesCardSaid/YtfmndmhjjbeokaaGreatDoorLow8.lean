import Derived.Test.YtfmndmhjjbeokaaGreatDoorLow1
import Derived.Test.YtfmndmhjjbeokaaGreatDoorLow4
import Derived.Test.YtfmndmhjjbeokaaGreatDoorLow7
import Derived.Laws.Concat
namespace Go.Proofs.YtfmndmhjjbeokaaGreatDoor
set_option maxRecDepth 100000
open Go.RowKit Tab
set_option linter.unusedSimpArgs false
set_option linter.unusedVariables false
namespace Txt
theorem bs_size (l:List UInt8):(bsOf l).size=l.length:=rfl
theorem bs_app (l m:List UInt8):bsOf l++bsOf m=bsOf (l++m):=by
 apply ByteArray.ext
 simp [bsOf]
theorem sadd (l m:List UInt8) (h:l.length+m.length≤9223372036854775807):∀ W,(Op.stringOp .add (bsOf l) (bsOf m)).run Tryz.prog W=.ok (.string (bsOf (l++m))) W:=fun W=>by
 rw [← bs_app]
 exact run_string_add_sum W _ _ h
theorem bs_ix {l:List UInt8} {i:Nat} {c:UInt8} (h:l[i]? = some c):∃ hi:i < (bsOf l).size,(bsOf l)[i]=c:=by
 obtain ⟨h1,h2⟩:=List.getElem?_eq_some_iff.1 h
 refine ⟨h1,?_⟩
 rw [← h2]
 simp [bsOf,ByteArray.getElem_eq_getElem_data]
theorem sidx {l:List UInt8} {i:Nat} {c:UInt8} (h:l[i]? = some c):∀ W,(Instr.index 9 (.string (bsOf l)) (.int .i64 (i:Int))).run Tryz.prog W=.ok (.int .u8 (c.toNat:Int)) W:=fun W=>by
 obtain ⟨hi,e⟩:=bs_ix h
 rw [run_index_string (h:=Tryz.underlying9)]
 simp [hi,e]
end Txt
open Txt
end Go.Proofs.YtfmndmhjjbeokaaGreatDoor
namespace Go.Proofs.YtfmndmhjjbeokaaGreatDoor
namespace Txt
open Tab
set_option linter.unusedSimpArgs false
set_option linter.unusedVariables false
def lim40:Nat:=1099511627775
def aheadT (p:UInt8→Bool) (s:List UInt8):List UInt8:=s.takeWhile fun c=>!p c
def behindT (p:UInt8→Bool) (s:List UInt8):List UInt8:=s.dropWhile fun c=>!p c
def st3 (c:UInt8):Bool:=decide (c=44) || (decide (c=40) || decide (c=41))
def st4 (c:UInt8):Bool:=decide (c=58) || st3 c
def takeB (b:UInt8):List UInt8→Option (List UInt8)
 | []=>none
 | c::r=>if c=b then some r else none
theorem takeB_cons (b c:UInt8) (r:List UInt8):takeB b (c::r)=if c=b then some r else none:=rfl
theorem takeB_self (b:UInt8) (r:List UInt8):takeB b (b::r)=some r:=by
 rw [takeB_cons,if_pos rfl]
theorem takeB_ne {b c:UInt8} (h:c≠b) (r:List UInt8):takeB b (c::r)=none:=by
 rw [takeB_cons,if_neg h]
theorem takeB_some {b:UInt8} {s r:List UInt8} (h:takeB b s=some r):s=b::r:=by
 cases s with
 | nil=>cases h
 | cons c t =>
  rw [takeB_cons] at h
  by_cases e:c=b
  ·rw [if_pos e] at h
   injection h with h
   rw [e,h]
  ·rw [if_neg e] at h
   cases h
theorem ahead_at (p:UInt8→Bool):∀ {x t:List UInt8},(∀ c∈x,p c=false)→(∀ c,t.head? = some c→p c=true)→aheadT p (x++t)=x∧behindT p (x++t)=t
 | [],[],_,_=>⟨rfl,rfl⟩
 | [],c::t,_,ht=>by
  have:=ht c rfl
  unfold aheadT behindT
  simp [this]
 | c::x,t,hx,ht=>by
  have h1:=hx c (by simp)
  have h2:=ahead_at p (x:=x) (t:=t) (fun d hd=>hx d (by simp [hd])) ht
  unfold aheadT behindT at h2 ⊢
  simp [h1,h2.1,h2.2]
theorem behind_le (p:UInt8→Bool) (s:List UInt8):(behindT p s).length≤s.length:=by
 unfold behindT
 exact (List.dropWhile_suffix _).length_le
def numT (s:List UInt8):Option (Nat×List UInt8):=if (valF lim40 (aheadT st3 s)).2=true then some ((valF lim40 (aheadT st3 s)).1,behindT st3 s) else none
def winT (look:List UInt8→Int) (s:List UInt8):Option (List Nd×List UInt8) :=
 if look (aheadT st4 s) < 0 then none else match takeB 58 (behindT st4 s) with
 | none=>none
 | some r=>(numT r).map fun x=>([⟨1,look (aheadT st4 s),x.1⟩],x.2)
def kidsR (f:Nat→List UInt8→Option (List Nd×List UInt8)):Nat→Nat→List UInt8→Option (List Nd×Nat×List UInt8)
 | 0,_,_=>none
 | k+1,rm,s=>match takeB 44 s with
  | none=>some ([],0,s)
  | some s1=>match f rm s1 with
   | none=>none
   | some x=>match kidsR f k (rm - x.1.length) x.2 with
    | none=>none
    | some y=>some (x.1++y.1,y.2.1+1,y.2.2)
def seqT (f:Nat→List UInt8→Option (List Nd×List UInt8)) (rm:Nat) (s:List UInt8):Option (List Nd×List UInt8):=match takeB 40 s with
 | none=>none
 | some s1=>match f rm s1 with
  | none=>none
  | some x=>match kidsR f (x.2.length+1) (rm - x.1.length) x.2 with
   | none=>none
   | some y=>(takeB 41 y.2.2).map fun s4=>(⟨3,0,((y.2.1+1:Nat):Int)⟩::(x.1++y.1),s4)
def repT (f:Nat→List UInt8→Option (List Nd×List UInt8)) (rm:Nat) (s:List UInt8):Option (List Nd×List UInt8):=match numT s with
 | none=>none
 | some v=>match takeB 40 v.2 with
  | none=>none
  | some s2=>match f rm s2 with
   | none=>none
   | some x=>(takeB 41 x.2).map fun s4=>(⟨4,0,v.1⟩::x.1,s4)
def stepR (look:List UInt8→Int) (f:Nat→List UInt8→Option (List Nd×List UInt8)):Nat→List UInt8→Option (List Nd×List UInt8)
 | 0,_=>none
 | _+1,[]=>none
 | rm+1,c::s=>if c=119 then winT look s else if c=105 then (numT s).map fun x=>([⟨2,0,x.1⟩],x.2) else if c=115 then seqT f rm s else if c=114 then repT f rm s else none
theorem stepR_cons (look:List UInt8→Int) (f:Nat→List UInt8→Option (List Nd×List UInt8)) (rm:Nat) (c:UInt8) (s:List UInt8):stepR look f (rm+1) (c::s)=if c=119 then winT look s else if c=105 then (numT s).map fun x=>([⟨2,0,x.1⟩],x.2) else if c=115 then seqT f rm s else if c=114 then repT f rm s else none:=rfl
theorem kidsR_succ (f:Nat→List UInt8→Option (List Nd×List UInt8)) (k rm:Nat) (s:List UInt8):kidsR f (k+1) rm s=match takeB 44 s with
  | none=>some ([],0,s)
  | some s1=>match f rm s1 with
   | none=>none
   | some x=>match kidsR f k (rm - x.1.length) x.2 with
    | none=>none
    | some y=>some (x.1++y.1,y.2.1+1,y.2.2):=rfl
def nodeR (look:List UInt8→Int):Nat→Nat→List UInt8→Option (List Nd×List UInt8)
 | 0=>fun _ _=>none
 | lv+1=>stepR look (nodeR look lv)
def tableR (look:List UInt8→Int) (s:List UInt8):Option (List Nd):=match nodeR look 16 128 s with
 | none=>none
 | some x=>if x.2=[] then some x.1 else none
def txN (nm:Int→List UInt8) (x:Nd) (k:List UInt8):List UInt8 :=
 if x.k=1 then 119::(nm x.p++58::numB x.n.toNat)
 else if x.k=2 then 105::numB x.n.toNat
 else if x.k=3 then 115::40::(k++[41])
 else 114::(numB x.n.toNat++40::(k++[41]))
def txX (nm:Int→List UInt8):F→Bool→List UInt8
 | .nil,_=>[]
 | .cons x k r,b=>(if b=true then [44] else [])++(txN nm x (txX nm k false)++txX nm r true)
theorem txX_comma (nm:Int→List UInt8) (x:Nd) (k r:F):txX nm (.cons x k r) true=44::txX nm (.cons x k r) false:=rfl
theorem txX_head (nm:Int→List UInt8) (r:F) (t:List UInt8) (ht:∀ c,t.head? = some c→st3 c=true):∀ c,(txX nm r true++t).head? = some c→st3 c=true:=by
 cases r with
 | nil=>exact ht
 | cons x k r =>
  intro c hc
  rw [txX_comma] at hc
  injection hc with hc
  subst hc
  rfl
theorem isD_st3 {c:UInt8} (h:isD c=true):st3 c=false:=by
 unfold isD at h
 simp only [Bool.and_eq_true,decide_eq_true_eq] at h
 unfold st3
 have h1:c≠44:=fun e=>by subst e;exact absurd h.1 (by decide)
 have h2:c≠40:=fun e=>by subst e;exact absurd h.1 (by decide)
 have h3:c≠41:=fun e=>by subst e;exact absurd h.1 (by decide)
 rw [decide_eq_false h1,decide_eq_false h2,decide_eq_false h3]
 rfl
theorem numT_num {n:Nat} (hn:n≤lim40) {t:List UInt8} (ht:∀ c,t.head? = some c→st3 c=true):numT (numB n++t)=some (n,t):=by
 obtain ⟨h1,h2⟩:=ahead_at st3 (x:=numB n) (t:=t) (fun c hc=>isD_st3 (num_all n c hc)) ht
 unfold numT
 rw [h1,h2,valF_num hn]
 rfl
def Say (nm:Int→List UInt8) (look:List UInt8→Int) (x:Nd):Prop:=x.n.toNat≤lim40∧(x.k=1→look (nm x.p)=x.p∧∀ c∈nm x.p,st4 c=false)
theorem nodeR_txN {nm:Int→List UInt8} {look:List UInt8→Int} {lv rm:Nat} {x:Nd} {k:F} {T:List UInt8} (hf:fine x=true) (hc:k.cnt=kn x) (hs:Say nm look x) (hT:∀ c,T.head? = some c→st3 c=true)
  (hk:∀ (x':Nd) (k' r':F),k=.cons x' k' r'→nodeR look lv rm (txX nm k false++41::T)=some (x'::k'.flat,txX nm r' true++41::T)∧∀ fuel,(txX nm r' true++41::T).length < fuel→kidsR (nodeR look lv) fuel (rm - (1+k'.sz)) (txX nm r' true++41::T)=some (r'.flat,r'.cnt,41::T)) :
  nodeR look (lv+1) (rm+1) (txN nm x (txX nm k false)++T)=some (x::k.flat,T):=by
 have h1:=fine_one hf
 have hx:x=⟨x.k,x.p,x.n⟩:=rfl
 have hn:((x.n.toNat:Nat):Int)=x.n:=by omega
 unfold fine at hf
 simp only [Bool.and_eq_true,decide_eq_true_eq] at hf
 obtain ⟨_,h2⟩:=hf
 show stepR look (nodeR look lv) (rm+1) _=_
 unfold txN
 split at h2
 ·rename_i e
  rw [if_pos e]
  have h2:=of_decide_eq_true h2
  obtain ⟨h3,h4⟩:=hs.2 e
  have hk0:k=.nil:=F.cnt_zero (by rw [hc];unfold kn;rw [if_neg (by omega),if_neg (by omega)])
  subst hk0
  obtain ⟨a1,a2⟩:=ahead_at st4 (x:=nm x.p) (t:=58::(numB x.n.toNat++T)) h4 (fun c hc=>by injection hc with hc;subst hc;rfl)
  have e2:((119:UInt8)::(nm x.p++58::numB x.n.toNat))++T=119::(nm x.p++58::(numB x.n.toNat++T)):=by simp
  rw [e2]
  rw [stepR_cons,if_pos rfl]
  unfold winT
  rw [a1,a2,h3,if_neg (by omega),takeB_self]
  show Option.map _ (numT (numB x.n.toNat++T))=_
  rw [numT_num hs.1 hT]
  show some ([⟨1,x.p,((x.n.toNat:Nat):Int)⟩],T)=some ([x],T)
  rw [hn,← e]
 ·rename_i e
  rw [if_neg e]
  split at h2
  ·rename_i e2
   have hp:=of_decide_eq_true h2
   rcases e2 with e2 | e2
   ·rw [if_pos e2]
    have hk0:k=.nil:=F.cnt_zero (by rw [hc];unfold kn;rw [if_neg (by omega),if_neg (by omega)])
    subst hk0
    show stepR look (nodeR look lv) (rm+1) (105::(numB x.n.toNat++T))=_
    rw [stepR_cons,if_neg (by decide),if_pos rfl,numT_num hs.1 hT]
    show some ([⟨2,0,((x.n.toNat:Nat):Int)⟩],T)=some ([x],T)
    rw [hn,← e2,← hp]
   ·rw [if_neg (by omega),if_neg (by omega)]
    have hk1:k.cnt=1:=by rw [hc];unfold kn;rw [if_neg (by omega),if_pos e2]
    have e3:((114:UInt8)::(numB x.n.toNat++40::(txX nm k false++[41])))++T=114::(numB x.n.toNat++40::(txX nm k false++41::T)):=by simp
    rw [e3]
    rw [stepR_cons,if_neg (by decide),if_neg (by decide),if_neg (by decide),if_pos rfl]
    unfold repT
    rw [numT_num hs.1 (fun c hc=>by injection hc with hc;subst hc;rfl)]
    show (match takeB 40 (40::(txX nm k false++41::T)) with | none=>none | some s2=>_)=_
    rw [takeB_self]
    cases hk2:k with
    | nil=>rw [hk2] at hk1;cases hk1
    | cons x' k' r' =>
     have hr:r'=.nil:=F.cnt_zero (by rw [hk2] at hk1;have:r'.cnt+1=1:=hk1;omega)
     have h5:=(hk x' k' r' hk2).1
     rw [hk2] at h5
     rw [hr] at h5 ⊢
     show (match nodeR look lv rm (txX nm (.cons x' k' .nil) false++41::T) with | none=>none | some x_1=>_)=_
     rw [h5]
     show Option.map _ (takeB 41 (41::T))=_
     rw [takeB_self]
     show some (⟨4,0,((x.n.toNat:Nat):Int)⟩::x'::k'.flat,T)=some (x::(x'::(k'.flat++[])),T)
     rw [hn,← e2,← hp,List.append_nil]
  ·split at h2
   ·rename_i e2 e3
    have h2:=of_decide_eq_true h2
    rw [if_neg (by omega),if_pos e3]
    have hk1:k.cnt=x.n.toNat:=by rw [hc];unfold kn;rw [if_pos e3]
    have e4:((115:UInt8)::40::(txX nm k false++[41]))++T=115::40::(txX nm k false++41::T):=by simp
    rw [e4]
    rw [stepR_cons,if_neg (by decide),if_neg (by decide),if_pos rfl]
    unfold seqT
    rw [takeB_self]
    cases hk2:k with
    | nil=>rw [hk2] at hk1;have:0=x.n.toNat:=hk1;omega
    | cons x' k' r' =>
     obtain ⟨h5,h6⟩:=hk x' k' r' hk2
     rw [hk2] at h5 hk1
     show (match nodeR look lv rm (txX nm (.cons x' k' r') false++41::T) with | none=>none | some x_1=>_)=_
     rw [h5]
     show (match kidsR (nodeR look lv) ((txX nm r' true++41::T).length+1) (rm - (x'::k'.flat).length) (txX nm r' true++41::T) with | none=>none | some y=>_)=_
     rw [List.length_cons,F.flat_length,Nat.add_comm k'.sz 1,h6 _ (Nat.lt_succ_self _)]
     show Option.map _ (takeB 41 (41::T))=_
     rw [takeB_self]
     show some (⟨3,0,((r'.cnt+1:Nat):Int)⟩::((x'::k'.flat)++r'.flat),T)=some (x::(x'::(k'.flat++r'.flat)),T)
     have e5:r'.cnt+1=x.n.toNat:=hk1
     rw [e5,hn,← e3,← h2.1]
     rfl
   ·cases h2
theorem txX_read (nm:Int→List UInt8) (look:List UInt8→Int):∀ (f:F),f.ok→(∀ x∈f.flat,Say nm look x)→∀ (lv rm:Nat) (t:List UInt8),f.dep≤lv→f.sz≤rm→takeB 44 t=none→(∀ c,t.head? = some c→st3 c=true) →
  ∀ (x:Nd) (k r:F),f=.cons x k r→nodeR look lv rm (txX nm f false++t)=some (x::k.flat,txX nm r true++t)∧∀ fuel,(txX nm r true++t).length < fuel→kidsR (nodeR look lv) fuel (rm - (1+k.sz)) (txX nm r true++t)=some (r.flat,r.cnt,t):=by
 intro f
 induction f with
 | nil=>intro _ _ lv rm t _ _ _ _ x k r h;cases h
 | cons x0 k0 r0 ihk ihr =>
  intro hok hsay lv rm t hd hsz ht0 ht x k r h
  injection h with e1 e2 e3
  subst e1 e2 e3
  obtain ⟨o1,o2,o3,o4⟩:=hok
  have hT:=txX_head nm r0 t ht
  simp only [F.dep] at hd
  simp only [F.sz] at hsz
  obtain ⟨lv',rfl⟩:∃ a,lv=a+1:=⟨lv - 1,by omega⟩
  obtain ⟨rm',rfl⟩:∃ a,rm=a+1:=⟨rm - 1,by omega⟩
  constructor
  ·show nodeR look (lv'+1) (rm'+1) (([]++(txN nm x0 (txX nm k0 false)++txX nm r0 true))++t)=_
   rw [List.nil_append,List.append_assoc]
   exact nodeR_txN o1 o2 (hsay x0 (by simp [F.flat])) hT fun x' k' r' hk=>ihk o3 (fun y hy=>hsay y (by simp [F.flat,hy])) lv' rm' (41::(txX nm r0 true++t)) (by omega) (by omega) (takeB_ne (by decide) _) (fun c hc=>by injection hc with hc;subst hc;rfl) x' k' r' hk
  ·intro fuel hfu
   obtain ⟨m,rfl⟩:∃ a,fuel=a+1:=⟨fuel - 1,by omega⟩
   cases hr:r0 with
   | nil =>
    show kidsR (nodeR look (lv'+1)) (m+1) _ t=_
    rw [kidsR_succ,ht0]
    rfl
   | cons x2 k2 r2 =>
    rw [hr] at hfu
    have h5:=ihr o4 (fun y hy=>hsay y (by simp [F.flat,hy])) (lv'+1) (rm'+1 - (1+k0.sz)) t (by omega) (by omega) ht0 ht x2 k2 r2 hr
    rw [hr] at h5
    rw [txX_comma] at hfu ⊢
    show kidsR (nodeR look (lv'+1)) (m+1) _ (44::(txX nm (.cons x2 k2 r2) false++t))=_
    rw [kidsR_succ,takeB_self]
    show (match nodeR look (lv'+1) (rm'+1 - (1+k0.sz)) (txX nm (.cons x2 k2 r2) false++t) with | none=>none | some x_1=>_)=_
    rw [h5.1]
    show (match kidsR (nodeR look (lv'+1)) m (rm'+1 - (1+k0.sz) - (x2::k2.flat).length) (txX nm r2 true++t) with | none=>none | some y=>_)=_
    rw [List.length_cons,F.flat_length,Nat.add_comm k2.sz 1,h5.2 m (by
     have e:txX nm (.cons x2 k2 r2) false=txN nm x2 (txX nm k2 false)++txX nm r2 true:=rfl
     rw [e] at hfu
     simp only [List.cons_append,List.append_assoc,List.length_cons,List.length_append] at hfu ⊢
     omega)]
    rfl
theorem tableR_tx {nm:Int→List UInt8} {look:List UInt8→Int} {x:Nd} {k:F} (hok:(F.cons x k .nil).ok) (hs:∀ y∈(F.cons x k .nil).flat,Say nm look y) (hd:(F.cons x k .nil).dep≤16) (hz:(F.cons x k .nil).sz≤128) :
  tableR look (txX nm (.cons x k .nil) false)=some (F.cons x k .nil).flat:=by
 have h:=(txX_read nm look _ hok hs 16 128 [] hd hz rfl (fun c hc=>by cases hc) x k .nil rfl).1
 rw [List.append_nil] at h
 unfold tableR
 rw [h]
 show (if ([]:List UInt8)=[] then some (x::k.flat) else none)=some (x::(k.flat++[]))
 rw [if_pos rfl,List.append_nil]
end Txt
end Go.Proofs.YtfmndmhjjbeokaaGreatDoor
namespace Go.Proofs.YtfmndmhjjbeokaaGreatDoor
namespace Tab
def War (m:Nat→Nat→Bool):Nat→Nat→Nat→Bool
 | 0,a,b=>m a b
 | k+1,a,b=>War m k a b || (War m k a k && War m k k b)
structure Pt where
 sched:Bool
 stop:Bool
structure Ch where
 from_:Int
 to_:Int
 queue:Bool
end Tab
end Go.Proofs.YtfmndmhjjbeokaaGreatDoor
