import Derived.Test.YtfmndmhjjbeokaaGreatDoorLow23
import Derived.Lib.ConvBytes
set_option maxHeartbeats 4000000
set_option maxRecDepth 100000
set_option linter.unusedSimpArgs false
set_option linter.unusedVariables false
namespace Go.Proofs.YtfmndmhjjbeokaaGreatDoor
namespace Txt
open Tab
def Got{α:Type}(R:Option (α×List UInt8))(v:α)(st:Option (List UInt8)):Prop:=st=R.map (·.2)/\∀ x,R=some x->v=x.1
theorem Got.bind{α β:Type}{st st':Option (List UInt8)}{f:List UInt8->Option (α×List UInt8)}{v:α}(h:Got (st.bind f) v st')(k:α->List UInt8->Option β):(st.bind fun s=>(f s).bind fun x=>k x.1 x.2)=st'.bind fun s=>k v s:=by
 obtain⟨rfl,h2⟩:=h;cases st with
 | none=>rfl
 | some s =>
  cases e:f s with
  | none=>show (f s).bind _=((f s).map _).bind _;rw[e];rfl
  | some x =>
   have:=h2 x (by show f s=_;rw[e]);show (f s).bind _=((f s).map _).bind _;rw[e,this];rfl
theorem must_bind{β:Type}(st:Option (List UInt8))(b:UInt8)(k:List UInt8->Option β):(st.bind fun s=>(takeB b s).bind k)=(st.bind (takeB b)).bind k:=(Option.bind_assoc _ _ _).symm
theorem Got.end_{α:Type}(v:α)(st:Option (List UInt8)):Got (st.bind fun s=>some (v,s)) v st:=by
 cases st with
 | none=>exact⟨rfl,fun x h=>by cases h⟩
 | some s=>exact⟨rfl,fun x h=>by injection h with h;rw[<- h]⟩
def isB(b c:UInt8):Bool:=decide (c=b)
def nameS(s:List UInt8):Option (List UInt8×List UInt8):=if nameF (bsOf (aheadT (isB 32) s))=true then some (aheadT (isB 32) s,behindT (isB 32) s) else none
def knownS(names:List (List UInt8))(b:UInt8)(s:List UInt8):Option (Int×List UInt8):=if findF names (aheadT (isB b) s) < 0 then none else some (findF names (aheadT (isB b) s),behindT (isB b) s)
def numW(s:List UInt8):Option (Int×List UInt8):=(numS lim40 s).map fun x=>((x.1:Int),x.2)
def numZ(m:Nat)(s:List UInt8):Option (Int×List UInt8):=(numS m s).map fun x=>((x.1:Int),x.2)
def flagS(s:List UInt8):Option ((Bool×Bool)×List UInt8):=match takeB 45 s with
 | some r=>some ((false,false),r)
 | none=>match takeB 115 s with
  | some r=>match takeB 116 r with
   | some q=>some ((true,true),q)
   | none=>some ((true,false),r)
  | none=>(takeB 116 s).map fun r=>((false,true),r)
def dgS(c:UInt8):Bool:=decide (48<=c.toNat/\c.toNat<=50)
def healS:Nat->List UInt8->Option (List Int×List UInt8)
 | 0,s=>some ([],s)
 | _+1,[]=>none
 | k+1,c::r=>if dgS c=true then (healS k r).map fun x=>(((c.toNat:Int) - 48)::x.1,x.2) else none
theorem healS_cons(k:Nat)(c:UInt8)(r:List UInt8):healS (k+1) (c::r)=if dgS c=true then (healS k r).map fun x=>(((c.toNat:Int) - 48)::x.1,x.2) else none:=rfl
def procS(s:List UInt8):Option ((Int×Int)×List UInt8):=(numW s).bind fun e=>(takeB 58 e.2).bind fun r=>(numW r).bind fun q=>some ((e.1,q.1),q.2)
def procsS:Nat->List UInt8->Option (List (Int×Int)×List UInt8)
 | 0,_=>none
 | k+1,s=>match procS s with
  | none=>none
  | some x=>match takeB 44 x.2 with
   | none=>some ([x.1],x.2)
   | some r=>(procsS k r).map fun y=>(x.1::y.1,y.2)
theorem procsS_succ(k:Nat)(s:List UInt8):procsS (k+1) s=match procS s with
  | none=>none
  | some x=>match takeB 44 x.2 with
   | none=>some ([x.1],x.2)
   | some r=>(procsS k r).map fun y=>(x.1::y.1,y.2):=rfl
def procsA(s:List UInt8):Option (List (Int×Int)×List UInt8):=procsS (s.length+1) s
def partV(nm:List UInt8)(b p:Int)(f:Bool×Bool)(h:List Int)(L:List (Int×Int)):Pq:=(⟨bsOf nm,b,p,f.1,f.2,none,L.length,L.length,h.getD 0 0,h.getD 1 0,h.getD 2 0,h.getD 3 0,h.getD 4 0⟩,L)
def partS(s:List UInt8):Option (Pq×List UInt8) :=
 (takeB 32 s).bind fun s=>(nameS s).bind fun nm=>(takeB 32 nm.2).bind fun s=>(numW s).bind fun b=>(takeB 32 b.2).bind fun s=>(numW s).bind fun p=>(takeB 32 p.2).bind fun s=>(flagS s).bind fun f=>(takeB 32 f.2).bind fun s=>(healS 5 s).bind fun h=>(takeB 32 h.2).bind fun s=>(procsA s).bind fun L=>some (partV nm.1 b.1 p.1 f.1 h.1 L.1,L.2)
def kindS(s:List UInt8):Option ((Bool×Int)×List UInt8):=match takeB 113 s with
 | some r=>(numW r).map fun x=>((true,x.1),x.2)
 | none=>(takeB 115 s).map fun r=>((false,0),r)
def chanS(names:List (List UInt8))(s:List UInt8):Option (ChV×List UInt8) :=
 (takeB 32 s).bind fun s=>(knownS names 32 s).bind fun a=>(takeB 32 a.2).bind fun s=>(knownS names 32 s).bind fun b=>(takeB 32 b.2).bind fun s=>(kindS s).bind fun k=>(takeB 32 k.2).bind fun s=>(numZ lim32 s).bind fun m=>(takeB 32 m.2).bind fun s=>(numW s).bind fun l=>some (⟨a.1,b.1,k.1.1,k.1.2,m.1,l.1⟩,l.2)
def tabS(names:List (List UInt8))(s:List UInt8):Option (NdT×List UInt8) :=
 (takeB 32 s).bind fun s=>(tableS (knownS names 58) s).bind fun t=>some (ndT0 t.1,t.2)
def lineS(c:Cft)(s:List UInt8):Option (Cft×List UInt8) :=
 if s=[]\/s.head? = some 35 then some (c,[]) else
 if aheadT (isB 32) s=wPart then (partS (behindT (isB 32) s)).map fun x=>(⟨c.P++[x.1],c.C,c.T⟩,x.2)
 else if aheadT (isB 32) s=wChan then (chanS (namesP c.P) (behindT (isB 32) s)).map fun x=>(⟨c.P,c.C++[x.1],c.T⟩,x.2)
 else if aheadT (isB 32) s=wTable then (tabS (namesP c.P) (behindT (isB 32) s)).map fun x=>(⟨c.P,c.C,c.T++[x.1]⟩,x.2)
 else none
def lineD(c:Cft)(s:List UInt8):Option Cft:=match lineS c s with
 | none=>none
 | some x=>if x.2=[] then some x.1 else none
def linesQ:Nat->Cft->List (List UInt8)->Nat ⊕ Cft
 | _,c,[]=>.inr c
 | i,c,x::l=>match lineD c x with
  | none=>.inl (i+1)
  | some c'=>linesQ (i+1) c' l
theorem linesQ_cons(i:Nat)(c:Cft)(x:List UInt8)(l:List (List UInt8)):linesQ i c (x::l)=match lineD c x with
  | none=>.inl (i+1)
  | some c'=>linesQ (i+1) c' l:=rfl
noncomputable def parseQ(s:List UInt8):Int×Int×Cft :=
 if 16384 < s.length then (3,0,cft0) else match linesQ 0 cft0 (splitF 10 s) with
 | .inl i=>(12,(i:Int),cft0)
 | .inr c=>if (D5 c.P c.C c.T).1=0 then (0,0,c) else ((D5 c.P c.C c.T).1,0,cft0)
theorem ahead_word{b:UInt8}{w t:List UInt8}(hw:b ∉ w)(ht:∀ c,t.head? = some c->c=b):aheadT (isB b) (w++t)=w/\behindT (isB b) (w++t)=t :=
 ahead_at (isB b) (fun c hc=>Ac fun e=>hw (e▸hc)) fun c hc=>Ae (ht c hc)
theorem split_words(b:UInt8):∀ s:List UInt8,joinB b (splitF b s)=s
 | []=>rfl
 | c::s=>by
  rw[splitF_cons]
  have ih:=split_words b s
  split
  ·rename_i hc
   cases hs:splitF b s with
   | nil=>exact absurd hs (split_ne b s)
   | cons x l =>
    rw[hs] at ih
    show []++b::joinB b (x::l)=_
    rw[ih,hc]
    rfl
  ·split
   ·rename_i hs;exact absurd hs (split_ne b s)
   ·rename_i x l hs
    rw[hs] at ih
    cases l with
    | nil=>show c::x=c::s;rw[show x=s from ih]
    | cons y l=>show (c::x)++b::joinB b (y::l)=c::s;rw[Bo];rw[show x++b::joinB b (y::l)=s from ih]
theorem split_free(b:UInt8):∀ s:List UInt8,∀ w∈splitF b s,b ∉ w
 | [],w,hw=>by
  have:w=[]:=by simpa [splitF] using hw
  rw[this]
  simp
 | c::s,w,hw=>by
  rw[splitF_cons] at hw
  have ih:=split_free b s
  split at hw
  ·rcases Ba.1 hw with rfl | hw
   ·simp
   ·exact ih w hw
  ·rename_i hc
   split at hw
   ·rename_i hs;exact absurd hs (split_ne b s)
   ·rename_i x l hs
    rw[hs] at ih
    rcases Ba.1 hw with rfl | hw
    ·intro hm
     rcases Ba.1 hm with e | hm
     ·exact hc e.symm
     ·exact ih x (by simp) hm
    ·exact ih w (by simp[hw])
theorem nameS_at{w t:List UInt8}(hn:nameF (bsOf w)=true)(hw:(32:UInt8) ∉ w)(ht:∀ c,t.head? = some c->c=32):nameS (w++t)=some (w,t):=by
 obtain⟨h1,h2⟩:=ahead_word hw ht;unfold nameS;rw[h1,h2,if_pos hn]
theorem knownS_at{names:List (List UInt8)}{b:UInt8}{w t:List UInt8}(hn:0<=findF names w)(hw:b ∉ w)(ht:∀ c,t.head? = some c->c=b):knownS names b (w++t)=some (findF names w,t):=by
 obtain⟨h1,h2⟩:=ahead_word hw ht;unfold knownS;rw[h1,h2,if_neg (by omega)]
theorem numZ_at{m:Nat}{w t:List UInt8}(hv:(valF m w).2=true)(ht:∀ c,t.head? = some c->isD c=false):numZ m (w++t)=some (((valF m w).1:Int),t):=by
 obtain⟨h1,h2⟩:=valF_inv hv;have:=numS_num h2 ht;rw[<- h1] at this;unfold numZ;rw[this];rfl
theorem numW_at{w t:List UInt8}(hv:(valF lim40 w).2=true)(ht:∀ c,t.head? = some c->isD c=false):numW (w++t)=some (((valF lim40 w).1:Int),t):=numZ_at hv ht
theorem flagS_at{w t:List UInt8}{f:Bool×Bool}(hf:flagP w=some f)(ht:∀ c,t.head? = some c->c≠116):flagS (w++t)=some (f,t):=by
 have aA:takeB 116 t=none:=by
  cases t with
  | nil=>rfl
  | cons c r=>exact takeB_ne (ht c rfl) r
 unfold flagP at hf;split at hf
 ·rename_i e;injection hf with hf;subst e;subst hf;rfl
 split at hf
 ·rename_i e;injection hf with hf;subst e;subst hf;show (match takeB 116 t with | some q=>some ((true,true),q) | none=>some ((true,false),t))=_;rw[aA]
 split at hf
 ·rename_i e;injection hf with hf;subst e;subst hf;rfl
 split at hf
 ·rename_i e;injection hf with hf;subst e;subst hf;rfl
 cases hf
theorem healS_at{w t:List UInt8}{h:Int×Int×Int×Int×Int}(hh:healP w=some h):healS 5 (w++t)=some ([h.1,h.2.1,h.2.2.1,h.2.2.2.1,h.2.2.2.2],t):=by
 unfold healP at hh;split at hh
 ·rename_i a b c d e;split at hh
  ·rename_i hc;simp only[Au] at hc;injection hh with hh;subst hh;obtain⟨⟨h1,h2⟩,h3,h4,h5⟩:=hc;show healS 5 (a::b::c::d::e::t)=_;rw[healS_cons,show dgS a=true from h1,if_pos rfl,healS_cons,show dgS b=true from h2,if_pos rfl,healS_cons,show dgS c=true from h3,if_pos rfl,healS_cons,show dgS d=true from h4,if_pos rfl,healS_cons,show dgS e=true from h5,if_pos rfl];rfl
  cases hh
 cases hh
theorem procS_at{w t:List UInt8}{q:Int×Int}(hq:procP w=some q)(ht:∀ c,t.head? = some c->isD c=false):procS (w++t)=some (q,t):=by
 unfold procP at hq;split at hq
 ·rename_i e p hs;split at hq
  ·rename_i hv;rw[Au] at hv;injection hq with hq;subst hq;have hw:=split_words 58 w;rw[hs] at hw;have hw:e++58::p=w:=hw;unfold procS;rw[<- hw,Ar,numW_at hv.1 (t:=(58::p)++t) (fun c hc=>by injection hc with hc;rw[<- hc];rfl)];rw[As];dsimp only;rw[Bo,takeB_self,As,numW_at hv.2 ht];rfl
  cases hq
 cases hq
theorem procsS_at:∀(W:List (List UInt8)) (L:List (Int×Int)),W≠[]->procsP W=some L->∀ k,W.length<=k->procsS k (joinB 44 W)=some (L,[])
 | [],_,h,_,_,_=>absurd rfl h
 | x::W,L,_,h,0,hk=>by simp at hk
 | x::W,L,_,h,k+1,hk=>by
  unfold procsP at h
  cases hx:procP x with
  | none=>rw[hx] at h;cases h
  | some q =>
   rw[hx] at h
   dsimp only at h
   cases hL:procsP W with
   | none=>rw[hL] at h;cases h
   | some L' =>
    rw[hL] at h
    injection h with h
    subst h
    rw[procsS_succ]
    cases W with
    | nil =>
     have:=procS_at (t:=[]) hx (by intro c hc;cases hc)
     rw[Az] at this
     show (match procS x with | none=>none | some x=>_)=_
     rw[this]
     injection hL with hL
     subst hL
     rfl
    | cons y W =>
     have:=procS_at (t:=44::joinB 44 (y::W)) hx (by intro c hc;injection hc with hc;rw[<- hc];rfl)
     show (match procS (x++44::joinB 44 (y::W)) with | none=>none | some x=>_)=_
     rw[this]
     dsimp only
     rw[takeB_self]
     dsimp only
     rw[procsS_at (y::W) L' (by simp) hL k (by simpa using hk)]
     rfl
theorem join_len(b:UInt8):∀ W:List (List UInt8),W.length<=(joinB b W).length+1
 | []=>by simp
 | [x]=>by simp
 | x::y::l=>by
  have:=join_len b (y::l)
  show _<=(x++b::joinB b (y::l)).length+1
  rw[Aa]
  simp only[Ad] at this |-
  omega
theorem procsA_at{w:List UInt8}{L:List (Int×Int)}(h:procsP (splitF 44 w)=some L):procsA w=some (L,[]):=by
 have hw:=split_words 44 w;have hl:=join_len 44 (splitF 44 w);rw[hw] at hl;have:=procsS_at (splitF 44 w) L (split_ne 44 w) h (w.length+1) hl;rw[hw] at this;exact this
theorem sp_head{x:List UInt8}(c:UInt8)(hc:((32:UInt8)::x).head? = some c):c=32:=by
 injection hc with hc;exact hc.symm
theorem sp_isD{x:List UInt8}(c:UInt8)(hc:((32:UInt8)::x).head? = some c):isD c=false:=by
 rw[sp_head c hc];rfl
theorem partS_at{w0 w1 w2 w3 w4 w5 w6:List UInt8}{y:Pq}(h:partP [w0,w1,w2,w3,w4,w5,w6]=some y)(h1:(32:UInt8) ∉ w1):partS (32::(w1++32::(w2++32::(w3++32::(w4++32::(w5++32::w6))))))=some (y,[]):=by
 unfold partP at h;dsimp only at h;split at h
 ·rename_i hv;simp only[Au] at hv;obtain⟨v2,v3,v1⟩:=hv;cases hf:flagP w4 with
  | none=>rw[hf] at h;cases h
  | some f =>
   cases hh:healP w5 with
   | none=>rw[hf,hh] at h;cases h
   | some hq =>
    cases hL:procsP (splitF 44 w6) with
    | none=>rw[hf,hh,hL] at h;cases h
    | some L =>
     rw[hf,hh,hL] at h;injection h with h;subst h;unfold partS;rw[takeB_self,As,nameS_at v1 h1 sp_head,As];dsimp only;rw[takeB_self,As,numW_at v2 sp_isD,As];dsimp only;rw[takeB_self,As,numW_at v3 sp_isD,As];dsimp only;rw[takeB_self,As,flagS_at hf (fun c hc=>by rw[sp_head c hc];decide),As];dsimp only;rw[takeB_self,As,healS_at hh,As];dsimp only;rw[takeB_self,As,procsA_at hL,As];rfl
 cases h
theorem chanS_at{names:List (List UInt8)}{w0 w1 w2 w3 w4 w5:List UInt8}{y:ChV}(h:chanP names [w0,w1,w2,w3,w4,w5]=some y)(h1:(32:UInt8) ∉ w1)(h2:(32:UInt8) ∉ w2):chanS names (32::(w1++32::(w2++32::(w3++32::(w4++32::w5)))))=some (y,[]):=by
 unfold chanP at h;dsimp only at h;split at h
 ·rename_i hv;simp only[Au,Av] at hv;obtain⟨v1,v2,v4,v5⟩:=hv;unfold chanS;rw[takeB_self,As,knownS_at v1 h1 sp_head,As];dsimp only;rw[takeB_self,As,knownS_at v2 h2 sp_head,As];dsimp only;have h5:=numW_at v5 (t:=[]) (by intro c hc;cases hc);rw[Az] at h5;split at h
  ·cases h
  rename_i k r;split at h
  ·rename_i hk;split at h
   ·rename_i hr;injection h with h;subst h;subst hk;have e:kindS ((113::r)++32::(w4++32::w5))=some ((true,((valF lim40 r).1:Int)),32::(w4++32::w5)):=by
     show (numW (r++32::(w4++32::w5))).map _=_;rw[numW_at hr sp_isD];rfl
    rw[takeB_self,As,e,As];dsimp only;rw[takeB_self,As,numZ_at v4 sp_isD,As];dsimp only;rw[takeB_self,As,h5];rfl
   cases h
  split at h
  ·rename_i hk;injection h with h;subst h;obtain⟨rfl,rfl⟩:=hk;have e:kindS ([115]++32::(w4++32::w5))=some ((false,0),32::(w4++32::w5)):=rfl;rw[takeB_self,As,e,As];dsimp only;rw[takeB_self,As,numZ_at v4 sp_isD,As];dsimp only;rw[takeB_self,As,h5];rfl
  cases h
 cases h
theorem ahead_all(p:UInt8->Bool):∀(s:List UInt8),∀ c∈aheadT p s,p c=false
 | [],c,h=>by cases h
 | x::s,c,h=>by
  unfold aheadT at h
  rw[List.takeWhile_cons] at h
  split at h
  ·rename_i hx
   rcases Ba.1 h with rfl | h
   ·simpa using hx
   ·exact ahead_all p s c h
  ·cases h
theorem look_known(names:List (List UInt8)):LookS (findF names) (knownS names 58):=fun s r hl hr=>by
 have h:=takeB_some hr
 have e:=ahead_behind st4 s
 have hw:(58:UInt8) ∉ aheadT st4 s:=fun hm=>by
  have:=ahead_all st4 s _ hm
  simp[st4] at this
 have:=knownS_at (b:=58) hl hw (t:=behindT st4 s) (by rw[h];intro c hc;injection hc with hc;exact hc.symm)
 rw[e] at this
 exact this
theorem look_num(look:List UInt8->Int)(hk:∀ w,0<=look w->(valF lim40 w).2=true/\look w=((valF lim40 w).1:Int)):LookS look numW:=fun s r hl hr=>by
 have h:=takeB_some hr
 have e:=ahead_behind st4 s
 obtain⟨h1,h2⟩:=hk _ hl
 have:=numW_at h1 (t:=behindT st4 s) (by rw[h];intro c hc;injection hc with hc;rw[<- hc];rfl)
 rw[e] at this
 rw[this,h2]
theorem tabS_at{names:List (List UInt8)}{w0 w1:List UInt8}{y:NdT}(h:tabP names [w0,w1]=some y):tabS names (32::w1)=some (y,[]):=by
 unfold tabP at h;dsimp only at h;cases ht:tableR (findF names) w1 with
 | none=>rw[ht] at h;cases h
 | some l =>
  rw[ht] at h;injection h with h;subst h;unfold tabS;rw[takeB_self,As,tableR_S (look_known names) ht];rfl
theorem join_cons(b:UInt8)(x:List UInt8){l:List (List UInt8)}(h:l≠[]):joinB b (x::l)=x++b::joinB b l:=by
 cases l with
 | nil=>exact absurd rfl h
 | cons y l=>rfl
theorem lineD_at{c c':Cft}{s:List UInt8}(hs:skipB s=false)(h:wordsP c (splitF 32 s)=some c'):lineD c s=some c':=by
 have hj:=split_words 32 s;have aA:=split_free 32 s;have h0:¬ (s=[]\/s.head? = some 35):=by
  unfold skipB at hs;simpa using hs
 generalize splitF 32 s=W at h hj aA;unfold lineD lineS;rw[if_neg h0];have aB:∀(w0:List UInt8) (l:List (List UInt8)),W=w0::l->aheadT (isB 32) s=w0/\behindT (isB 32) s=if l=[] then [] else 32::joinB 32 l:=fun w0 l e=>by
  subst e;have aC:=aA w0 (by simp);by_cases hl:l=[]
  ·subst hl;have:=ahead_word (t:=[]) aC (by intro c hc;cases hc);rw[Az,show w0=s from hj] at this;rw[if_pos rfl,this.2];exact⟨this.1.trans hj.symm,rfl⟩
  have:=ahead_word (t:=32::joinB 32 l) aC sp_head;rw[<- join_cons 32 w0 hl,hj] at this;rw[if_neg hl];exact this
 unfold wordsP at h;split at h
 ·rename_i hw;cases hp:partP W with
  | none=>rw[hp] at h;cases h
  | some y =>
   rw[hp] at h;injection h with h;subst h;have:∃ w1 w2 w3 w4 w5 w6,W=[wPart,w1,w2,w3,w4,w5,w6]:=by
    unfold partP at hp;split at hp
    ·rename_i w0 w1 w2 w3 w4 w5 w6;have e:w0=wPart:=by simpa using hw
     exact⟨w1,w2,w3,w4,w5,w6,by rw[e]⟩
    cases hp
   obtain⟨w1,w2,w3,w4,w5,w6,e⟩:=this;obtain⟨a1,a2⟩:=aB _ _ e;subst e;rw[a1,a2,if_pos rfl,if_neg (by simp)];have e:partS (32::joinB 32 [w1,w2,w3,w4,w5,w6])=some (y,[]):=partS_at hp (aA w1 (by simp));rw[e];rfl
 rename_i aE;split at h
 ·rename_i hw;cases hp:chanP (namesP c.P) W with
  | none=>rw[hp] at h;cases h
  | some y =>
   rw[hp] at h;injection h with h;subst h;have:∃ w1 w2 w3 w4 w5,W=[wChan,w1,w2,w3,w4,w5]:=by
    unfold chanP at hp;split at hp
    ·rename_i w0 w1 w2 w3 w4 w5;have e:w0=wChan:=by simpa using hw
     exact⟨w1,w2,w3,w4,w5,by rw[e]⟩
    cases hp
   obtain⟨w1,w2,w3,w4,w5,e⟩:=this;obtain⟨a1,a2⟩:=aB _ _ e;subst e;rw[a1,a2,if_neg (by decide),if_pos rfl,if_neg (by simp)];have e:chanS (namesP c.P) (32::joinB 32 [w1,w2,w3,w4,w5])=some (y,[]):=chanS_at hp (aA w1 (by simp)) (aA w2 (by simp));rw[e];rfl
 rename_i aD;split at h
 ·rename_i hw;cases hp:tabP (namesP c.P) W with
  | none=>rw[hp] at h;cases h
  | some y =>
   rw[hp] at h;injection h with h;subst h;have:∃ w1,W=[wTable,w1]:=by
    unfold tabP at hp;split at hp
    ·rename_i w0 w1;have e:w0=wTable:=by simpa using hw
     exact⟨w1,by rw[e]⟩
    cases hp
   obtain⟨w1,e⟩:=this;obtain⟨a1,a2⟩:=aB _ _ e;subst e;rw[a1,a2,if_neg (by decide),if_neg (by decide),if_pos rfl,if_neg (by simp)];have e:tabS (namesP c.P) (32::joinB 32 [w1])=some (y,[]):=tabS_at hp;rw[e];rfl
 cases h
theorem lineD_skip{c:Cft}{s:List UInt8}(hs:skipB s=true):lineD c s=some c:=by
 unfold skipB at hs;unfold lineD lineS;rw[if_pos (by simpa using hs)];rfl
theorem linesQ_at:∀(l:List (List UInt8)) (i:Nat) (c d:Cft),linesP i c l=.inr d->linesQ i c l=.inr d
 | [],_,_,_,h=>h
 | x::l,i,c,d,h=>by
  unfold linesP at h
  rw[linesQ_cons]
  split at h
  ·rename_i hs
   rw[lineD_skip hs]
   exact linesQ_at l (i+1) c d h
  ·rename_i hs
   split at h
   ·cases h
   ·rename_i c' hw
    rw[lineD_at (by simpa using hs) hw]
    exact linesQ_at l (i+1) c' d h
theorem parseQ_at{s:List UInt8}{d:Cft}(h:parseP s=(0,0,d)):parseQ s=(0,0,d):=by
 unfold parseP at h;unfold parseQ;split at h
 ·cases h
 rename_i hl;rw[if_neg hl];cases hq:linesP 0 cft0 (splitF 10 s) with
 | inl i=>rw[hq] at h;cases h
 | inr c=>rw[hq] at h;rw[linesQ_at _ _ _ _ hq];exact h
end Txt
end Go.Proofs.YtfmndmhjjbeokaaGreatDoor
namespace Go.Proofs.YtfmndmhjjbeokaaGreatDoor
open Go.RowKit Tab Txt
def rdc(st:Option (List UInt8)):List Value:=[.string (bsOf (st.getD [])),.bool st.isNone]
abbrev Qce(B g:Nat)(st:Option (List UInt8))(w:World):Prop:=OwnV 79 2 w B (some ⟨g,0,none⟩) 1 1 (rdc st)
structure Rpo(B g:Nat)(st':Option (List UInt8))(w w':World):Prop where
 rd:Qce B g st' w'
 gb:w.grownBy w' (some g)
theorem Sn(w:World)(g:Option Nat):w.grownBy w g:=⟨rfl,rfl,rfl,Ag _,fun _ _ _=>rfl⟩
theorem Ha{w w1 w2:World}{g:Option Nat}(h:w.grownBy w1 g)(k:w1.grownBy w2 g):w.grownBy w2 g :=
 ⟨k.os.trans h.os,k.tape.trans h.tape,k.output.trans h.output,Ai h.size k.size,fun i hi aA=>(k.block i (Bc hi h.size) aA).trans (h.block i hi aA)⟩
theorem Ho{w w':World}{g:Option Nat}(h:Below w.heap.size w w'):w.grownBy w' g:=⟨h.os,h.tape,h.output,h.size,fun i hi _=>h.block i hi⟩
theorem Fq{w w':World}{g B:Nat}(h:w.grownBy w' (some g))(hg:B<=g)(hB:B<=w.heap.size):Below B w w':=⟨h.os,h.tape,h.output,h.size,fun i hi=>h.block i (by omega) (by intro e;injection e with e;omega)⟩
theorem M9{w:World}{g k:Nat}(v:Value)(hg:g < w.heap.size):w.grownBy (w.setCell ⟨g,k,none⟩ v) (some g):=by
 have h:Below g w (w.setCell ⟨g,k,none⟩ v):=(Aj _ _).setCell (p:=⟨g,k,none⟩) (Ag _) v;refine⟨h.os,h.tape,h.output,h.size,fun i hi aA=>?_⟩;exact Bn _ _ _ _ (fun e=>aA (by rw[e]))
theorem mq{w w':World}{g:Option Nat}(h:w.grownBy w' g)(q:Nat):w.grownBy (w'.drewN q) g:=⟨h.os,h.tape,h.output,h.size,h.block⟩
theorem OwnV.gbo{E s B n c:Nat}{A:Option Addr}{l:List Value}{w w':World}{g:Nat}(h:OwnV E s w B A n c l)(hg:w.grownBy w' (some g))(hA:obk A≠some g):OwnV E s w' B A n c l :=
 OwnV.keep' h fun k hk=>hg.block k (OwnV.older h hk) fun e=>hA (by rw[hk,e])
section
variable {B g:Nat} {st st':Option (List UInt8)} {w w' w'':World}
theorem Qce.cells(h:Qce B g st w):w.cell? ⟨g,0,none⟩=some (.string (bsOf (st.getD [])))/\w.cell? ⟨g,1,none⟩=some (.bool st.isNone)/\w.frozen? ⟨g,0,none⟩=false/\w.frozen? ⟨g,1,none⟩=false/\B<=g/\g < w.heap.size :=
 ⟨Ah h 0 (by omega),Ah h 1 (by omega),Aq h 0,Aq h 1,OwnV.obk_ge h (b:=g) rfl⟩
theorem Rpo.trans{s1:Option (List UInt8)}(h:Rpo B g s1 w w')(k:Rpo B g st' w' w''):Rpo B g st' w w'':=⟨k.rd,Ha h.gb k.gb⟩
theorem Rpo.refl(h:Qce B g st w):Rpo B g st w w:=⟨h,Sn _ _⟩
theorem Rpo.set0(h:Qce B g st w)(s r:List UInt8)(hs:st=some s):Rpo B g (some r) w (w.setCell ⟨g,0,none⟩ (.string (bsOf r))):=by
 subst hs;exact⟨OwnV.set h 0 _ (by show 0 < 2;omega),M9 _ h.cells.2.2.2.2.2⟩
theorem Rpo.fell(h:Qce B g st w):Rpo B g none w ((w.setCell ⟨g,0,none⟩ (.string ⟨#[]⟩)).setCell ⟨g,1,none⟩ (.bool true)) :=
 ⟨OwnV.set (OwnV.set h 0 _ (by show 0 < 2;omega)) 1 _ (by show 1 < 2;omega),Ha (M9 _ h.cells.2.2.2.2.2) (M9 _ (by simpa using h.cells.2.2.2.2.2))⟩
end
theorem Vu(a:ByteArray):a.toList.isEmpty=decide (a=⟨#[]⟩):=by
 have h:=Et (a:=a) (b:=⟨#[]⟩) rfl;have e:(⟨#[]⟩:ByteArray).toList=[]:=by kernel_rfl
 rw[e] at h;rw[<- h];cases a.toList <;> rfl
theorem Hc{B g:Nat}{st:Option (List UInt8)}{w:World}(h:Qce B g st w)(hs:st.getD []=[]):Calls Tryz.prog 40 #[.pointer (some ⟨g,0,none⟩)] w (fun e w'=>e=.returned (.bool true)/\w=w'):=by
 obtain⟨m0,m1,f0,f1,hB,hg⟩:=h.cells;have i1:(bsOf []).toList.isEmpty=true:=by rw[Vu];exact Ae rfl
 rw[hs] at m0;generalize bsOf []=sv at m0 i1;clear h hs m1;go_in;go_wp2;go_ret;exact⟨rfl,rfl⟩
theorem Gf{B g:Nat}{c:UInt8}{r:List UInt8}{w:World}(h:Qce B g (some (c::r)) w):Calls Tryz.prog 40 #[.pointer (some ⟨g,0,none⟩)] w (fun e w'=>e=.returned (.bool false)/\w=w'):=by
 obtain⟨m0,m1,f0,f1,hB,hg⟩:=h.cells;have i1:(bsOf (c::r)).toList.isEmpty=false:=by rw[Vu];exact Ac fun e=>by have:=congrArg ByteArray.size e;cases this
 rw[Bq] at m0;generalize bsOf (c::r)=sv at m0 i1;clear h m1;go_in;go_wp2;go_ret;exact⟨rfl,rfl⟩
theorem En{B g:Nat}{st:Option (List UInt8)}{w:World}(h:Qce B g st w):Calls Tryz.prog 78 #[.pointer (some ⟨g,0,none⟩)] w (fun e w'=>e=.returned (.tuple #[])/\Rpo B g none w w'):=by
 obtain⟨m0,m1,f0,f1,hB,hg⟩:=h.cells;have H:=hid h;clear h;go_in;go_wp2_with fail;go_end0;exact⟨rfl,Rpo.fell H.o⟩
theorem Pw{B g:Nat}{st:Option (List UInt8)}{w:World}(h:Qce B g st w):Calls Tryz.prog 44 #[.pointer (some ⟨g,0,none⟩)] w (fun e w'=>e=.returned (.bool (decide (st=some [])))/\w=w'):=by
 obtain⟨m0,m1,f0,f1,hB,hg⟩:=h.cells;cases st with
 | none =>
  have HE:=hid (Hc h rfl);rw[Ac (by intro e;cases e)];clear h m0;go_in;go_wp2_with (go_at_call 40;refine HE.o.mono ?_;rintro e w1⟨rfl,rfl⟩);go_ret;exact⟨rfl,rfl⟩
 | some s =>
  cases s with
  | nil =>
   have HE:=hid (Hc h rfl);rw[Ae rfl];clear h m0;go_in;go_wp2_with (go_at_call 40;refine HE.o.mono ?_;rintro e w1⟨rfl,rfl⟩);go_ret;exact⟨rfl,rfl⟩
  | cons c r =>
   have HE:=hid (Gf h);rw[Ac (by intro e;injection e with e;cases e)];clear h m0;go_in;go_wp2_with (go_at_call 40;refine HE.o.mono ?_;rintro e w1⟨rfl,rfl⟩);go_ret;exact⟨rfl,rfl⟩
def tkS(b:UInt8)(st:Option (List UInt8)):Option (List UInt8):=match st.bind (takeB b) with
 | some r=>some r
 | none=>st
theorem Lv{B g:Nat}{st:Option (List UInt8)}{w:World}(h:Qce B g st w)(b:UInt8)(z:Int)(hz:z=(b.toNat:Int)):Calls Tryz.prog 42 #[.pointer (some ⟨g,0,none⟩),.int .u8 z] w (fun e w'=>e=.returned (.bool (st.bind (takeB b)).isSome)/\Rpo B g (tkS b st) w w'):=by
 subst hz;obtain⟨m0,m1,f0,f1,hB,hg⟩:=h.cells;have H:=hid h;by_cases hs:st.getD []=[]
 ·have HE:=hid (Hc h hs);have e1:st.bind (takeB b)=none:=by
   cases st with
   | none=>rfl
   | some s=>rw[show s=[] from hs];rfl
  have e2:tkS b st=st:=by unfold tkS;rw[e1]
  rw[e1,e2];clear h m0 e1 e2 hs;go_in;go_wp2_with (go_at_call 40;refine HE.o.mono ?_;rintro e w1⟨rfl,rfl⟩);go_ret;exact⟨rfl,Rpo.refl H.o⟩
 obtain⟨c,r,rfl⟩:∃ c r,st=some (c::r):=by
  cases st with
  | none=>exact absurd rfl hs
  | some s =>
   cases s with
   | nil=>exact absurd rfl hs
   | cons c r=>exact⟨c,r,rfl⟩
 have HE:=hid (Gf h);have aA:(bsOf (c::r)).size=r.length+1:=rfl;have aB:∀ W,(Instr.index 9 (.string (bsOf (c::r))) (.int .i64 0)).run Tryz.prog W=.ok (.int .u8 (c.toNat:Int)) W:=sidx (l:=c::r) (i:=0) rfl;have aC:(some (c::r)).bind (takeB b)=if c=b then some r else none:=takeB_cons b c r;unfold tkS;rw[aC];rw[Bq] at m0;clear h hs aC;by_cases hc:c=b
 ·have i1:((c.toNat:Int) != (b.toNat:Int))=false:=by rw[hc];simp
  have aD:(bsOf (c::r)).extract 1 (r.length+1)=bsOf r:=bs_from (c::r) 1 _ rfl;rw[if_pos hc];generalize bsOf (c::r)=sv at m0 aA aB aD;go_in;go_wp2_with (go_at_call 40;refine HE.o.mono ?_;rintro e w1⟨rfl,rfl⟩);go_ret;exact⟨rfl,Rpo.set0 H.o _ r rfl⟩
 have i1:((c.toNat:Int) != (b.toNat:Int))=true:=Bz.2 fun e=>hc (Cz.1 (Int.ofNat.inj e));rw[if_neg hc];generalize bsOf (c::r)=sv at m0 aA aB;go_in;go_wp2_with (go_at_call 40;refine HE.o.mono ?_;rintro e w1⟨rfl,rfl⟩);go_ret;exact⟨rfl,Rpo.refl H.o⟩
def nxV(st:Option (List UInt8)):Int:=match st with
 | some (c::_)=>(c.toNat:Int)
 | _=>0
def nxS(st:Option (List UInt8)):Option (List UInt8):=st.map List.tail
theorem Lw{B g:Nat}{st:Option (List UInt8)}{w:World}(h:Qce B g st w):Calls Tryz.prog 83 #[.pointer (some ⟨g,0,none⟩)] w (fun e w'=>e=.returned (.int .u8 (nxV st))/\Rpo B g (nxS st) w w'):=by
 obtain⟨m0,m1,f0,f1,hB,hg⟩:=h.cells;have H:=hid h;by_cases hs:st.getD []=[]
 ·have HE:=hid (Hc h hs);have e1:nxV st=0/\nxS st=st:=by
   cases st with
   | none=>exact⟨rfl,rfl⟩
   | some s=>rw[show s=[] from hs];exact⟨rfl,rfl⟩
  rw[e1.1,e1.2];clear h m0 e1 hs;go_in;go_wp2_with (go_at_call 40;refine HE.o.mono ?_;rintro e w1⟨rfl,rfl⟩);go_ret;exact⟨rfl,Rpo.refl H.o⟩
 obtain⟨c,r,rfl⟩:∃ c r,st=some (c::r):=by
  cases st with
  | none=>exact absurd rfl hs
  | some s =>
   cases s with
   | nil=>exact absurd rfl hs
   | cons c r=>exact⟨c,r,rfl⟩
 have HE:=hid (Gf h);have aA:(bsOf (c::r)).size=r.length+1:=rfl;have aB:∀ W,(Instr.index 9 (.string (bsOf (c::r))) (.int .i64 0)).run Tryz.prog W=.ok (.int .u8 (c.toNat:Int)) W:=sidx (l:=c::r) (i:=0) rfl;have aC:(bsOf (c::r)).extract 1 (r.length+1)=bsOf r:=bs_from (c::r) 1 _ rfl;rw[Bq] at m0;show Calls _ _ _ _ (fun e w'=>e=.returned (.int .u8 (c.toNat:Int))/\Rpo B g (some r) w w');clear h hs;generalize bsOf (c::r)=sv at m0 aA aB aC;go_in;go_wp2_with (go_at_call 40;refine HE.o.mono ?_;rintro e w1⟨rfl,rfl⟩);go_ret;exact⟨rfl,Rpo.set0 H.o _ r rfl⟩
theorem Fc{B g:Nat}{st:Option (List UInt8)}{w:World}(h:Qce B g st w)(b:UInt8)(z:Int)(hz:z=(b.toNat:Int)){r:List UInt8}(hr:st.bind (takeB b)=some r):Calls Tryz.prog 42 #[.pointer (some ⟨g,0,none⟩),.int .u8 z] w (fun e w'=>e=.returned (.bool true)/\Rpo B g (some r) w w'):=by
 have:=Lv h b z hz;have e2:tkS b st=some r:=by unfold tkS;rw[hr]
 rw[hr,e2] at this;exact this
theorem Fj{B g:Nat}{st:Option (List UInt8)}{w:World}(h:Qce B g st w)(b:UInt8)(z:Int)(hz:z=(b.toNat:Int))(hr:st.bind (takeB b)=none):Calls Tryz.prog 42 #[.pointer (some ⟨g,0,none⟩),.int .u8 z] w (fun e w'=>e=.returned (.bool false)/\Rpo B g st w w'):=by
 have:=Lv h b z hz;have e2:tkS b st=st:=by unfold tkS;rw[hr]
 rw[hr,e2] at this;exact this
theorem Qcd{B g:Nat}{st:Option (List UInt8)}{w:World}(h:Qce B g st w)(b:UInt8)(z:Int)(hz:z=(b.toNat:Int)):Calls Tryz.prog 75 #[.pointer (some ⟨g,0,none⟩),.int .u8 z] w (fun e w'=>e=.returned (.tuple #[])/\Rpo B g (st.bind (takeB b)) w w'):=by
 cases hq:st.bind (takeB b) with
 | some r =>
  have HT:=hid (Fc h b z hz hq);clear h hq hz;go_in;go_wp2_with fail;refine HT.o.mono ?_;rintro e w1⟨rfl,h1⟩;have H1:=hid h1;clear h1;go_wp2_with fail;go_end0;exact⟨rfl,H1.o⟩
 | none =>
  have HT:=hid (Fj h b z hz hq);clear h hq hz;go_in;go_wp2_with fail;refine HT.o.mono ?_;rintro e w1⟨rfl,h1⟩;have HF:=hid (En h1.rd);have H1:=hid h1;clear h1;go_wp2_with fail;refine HF.o.mono ?_;rintro e w2⟨rfl,h2⟩;have H2:=hid (H1.o.trans h2);clear h2;go_wp2_with fail;go_end0;exact⟨rfl,H2.o⟩
theorem Rpo.map0{B g:Nat}{st:Option (List UInt8)}{w:World}(h:Qce B g st w)(f:List UInt8->List UInt8)(hf:f []=[]):Rpo B g (st.map f) w (w.setCell ⟨g,0,none⟩ (.string (bsOf (f (st.getD []))))):=by
 refine⟨?_,M9 _ h.cells.2.2.2.2.2⟩;have e:=OwnV.set h 0 (.string (bsOf (f (st.getD [])))) (by show 0 < 2;omega);cases st with
 | none =>
  show OwnV _ _ _ _ _ _ _ [.string (bsOf []),.bool true];rw[show ((none:Option (List UInt8)).getD [])=[] from rfl,hf] at e |-;exact e
 | some s=>exact e
theorem Js{B g:Nat}{st:Option (List UInt8)}{w:World}(h:Qce B g st w)(hl:(st.getD []).length<=140737488351232)(b:UInt8)(z:Int)(hz:z=(b.toNat:Int)):
  Calls Tryz.prog 41 #[.pointer (some ⟨g,0,none⟩),.int .u8 z] w (fun e w'=>e=.returned (.string (bsOf (aheadT (isB b) (st.getD []))))/\Rpo B g (st.map (behindT (isB b))) w w'):=by
 obtain⟨m0,m1,f0,f1,hB,hg⟩:=h.cells;have HM:=hid (Rpo.map0 h (behindT (isB b)) rfl);subst hz;generalize st.map (behindT (isB b))=ST at HM |-;generalize st.getD []=s at m0 hl HM |-;have aG:=hid fun i c (h:s[i]? = some c)=>sidx h;have aH:=hid (bs_upto s);obtain⟨n,hn⟩:∃ n,n=s.length:=⟨_,rfl⟩;have aI:=hid fun i=>bs_from s i n hn.symm;have aP:(bsOf s).size=n:=by rw[hn];rfl
 have HN:=hid hn;have aB:=hid fun i (h1:∀ j,j < i->∀ d,s[j]? = some d->isB b d=false) (h2:∀ c,s[i]? = some c->isB b c=true)=>ahead_split (p:=isB b) h1 h2;rw[<- hn] at hl;generalize aheadT (isB b) s=R1 at aB |-;generalize behindT (isB b) s=R2 at aB HM |-;clear h hn m1 f1;generalize aQ:bsOf s=sv at m0 aG aH aI aP;clear aQ;obtain⟨b1,aM⟩:∃ b1,b1=b.toNat:=⟨_,rfl⟩;rw[<- aM];have aO:=hid aM;clear aM;go_in;go_wp2;go_loopw [5] (fun v wr=>∃ i:Nat,i<=n/\v=.int .i64 i/\(∀ j,j < i->∀ d,s[j]? = some d->isB b d=false)/\w=wr) (fun v _=>n - (intOf v).toNat)
 case atStart=>exact⟨0,by omega,rfl,fun j hj=>by omega,rfl⟩
 obtain⟨i,hi,rfl,aN,rfl⟩:=hrel;have aD:=hid aN;clear aN;have aJ:=aH.o i;have aL:=aI.o i;by_cases aR:i < n
 ·have aK:(i:Int) < (n:Int):=by omega
  obtain⟨c,hc⟩:∃ c,s[i]? = some c:=⟨_,Am (by rw[<- HN.o];exact aR)⟩;obtain⟨c1,aE⟩:∃ c1,c1=c.toNat:=⟨_,rfl⟩;have aU:∀ W,(Instr.index 9 (.string sv) (.int .i64 (i:Int))).run Tryz.prog W=.ok (.int .u8 (c1:Int)) W:=by rw[aE];exact aG.o i c hc
  by_cases aC:c=b
  ·have i1:((c1:Int) != (b1:Int))=false:=by rw[aE,aO.o,aC];simp
   have aA:=aB.o i aD.o (fun c' aF=>by rw[hc] at aF;injection aF with e;rw[<- e,aC];exact Ae rfl);have S1:=hid aA.1;have S2:=hid aA.2;have Q1:Hd (bsOf R1=bsOf (s.take i)):=hid (by rw[S1.o]);have Q2:Hd (bsOf R2=bsOf (s.drop i)):=hid (by rw[S2.o]);clear aA aB aD aC hc aE aG aH aI S1 S2;generalize bsOf (s.take i)=o1 at aJ Q1;generalize bsOf (s.drop i)=o2 at aL Q2;go_wp2;go_ret;exact⟨by rw[Q1.o];rfl,by have:=HM.o;rw[Q2.o] at this;exact this⟩
  have i1:((c1:Int) != (b1:Int))=true:=Bz.2 fun e=>aC (Cz.1 (by rw[<- aE,<- aO.o];exact Int.ofNat.inj e));have aT:Hd (∀ j,j < i+1->∀ d,s[j]? = some d->isB b d=false):=hid fun j hj d hd=>by
   rcases Bk j i with h5 | h5
   ·exact aD.o j h5 d hd
   obtain rfl:j=i:=by omega
   rw[hc] at hd;injection hd with e;rw[<- e];exact Ac aC
  clear aB aD aC hc aE aG aH aI aJ aL;go_wp2;go_roundw
  case rel=>exact⟨i+1,by omega,by go_num,aT.o,by first | rfl | trivial⟩
  simp[intOf];omega
 have aK:¬ (i:Int) < (n:Int):=by omega
 have aA:=aB.o i aD.o (fun c' aF=>by rw[Bw (by rw[<- HN.o];omega)] at aF;cases aF);have S1:=hid aA.1;have S2:=hid aA.2;have Q1:Hd (bsOf R1=bsOf (s.take i)):=hid (by rw[S1.o]);have Q2:Hd (bsOf R2=bsOf (s.drop i)):=hid (by rw[S2.o]);clear aA aB aD aG aH aI S1 S2;generalize bsOf (s.take i)=o1 at aJ Q1;generalize bsOf (s.drop i)=o2 at aL Q2;go_wp2;go_ret;exact⟨by rw[Q1.o];rfl,by have:=HM.o;rw[Q2.o] at this;exact this⟩
theorem Xs{b:UInt8}{s:List UInt8}(h:¬ ∃ r,s=b::r):takeB b s=none:=by
 cases s with
 | nil=>rfl
 | cons c r=>exact takeB_ne (fun e=>h ⟨r,by rw[e]⟩) r
def Ve(w:World)(g:Nat):Nat:=match w.cell? ⟨g,0,none⟩ with
 | some (.string s)=>s.size
 | _=>0
theorem Gy{B g:Nat}{st:Option (List UInt8)}{w:World}(h:Qce B g st w):Ve w g=(st.getD []).length:=by
 unfold Ve;rw[h.cells.1];rfl
theorem mr{m:Nat}{st:Option (List UInt8)}{g B:Nat}(h:st.bind (numZ m)=none)(v:Int):Got (st.bind (numZ m)) v none:=⟨by rw[h];rfl,fun x e=>by rw[h] at e;cases e⟩
theorem P9{m n:Nat}{st:Option (List UInt8)}{r:List UInt8}(h:st.bind (numS m)=some (n,r)):Got (st.bind (numZ m)) (n:Int) (some r):=by
 have e:st.bind (numZ m)=some ((n:Int),r):=by
  cases st with
  | none=>cases h
  | some s=>show (numS m s).map _=_;rw[show numS m s=some (n,r) from h];rfl
 exact⟨by rw[e];rfl,fun x hx=>by rw[e] at hx;injection hx with hx;rw[<- hx]⟩
theorem ig{m:Nat}{st:Option (List UInt8)}(h:st.bind (numS m)=none)(v:Int):Got (st.bind (numZ m)) v none:=by
 have e:st.bind (numZ m)=none:=by
  cases st with
  | none=>rfl
  | some s=>show (numS m s).map _=_;rw[show numS m s=none from h];rfl
 exact⟨by rw[e];rfl,fun x hx=>by rw[e] at hx;cases hx⟩
def Qbj(B g:Nat)(R:Option (Int×List UInt8))(w:World)(e:Ending)(w':World):Prop:=∃(v:Int) (st':Option (List UInt8)),e=.returned (.int .i64 v)/\0<=v/\v<=10995116277759/\Got R v st'/\Rpo B g st' w w'
def mi(m:Nat)(R:Option (Nat×List UInt8))(n:Nat)(st:Option (List UInt8)):Prop:=match st with
 | none=>R=none
 | some s=>R=numL m n s/\n<=m
theorem Qcg{B g:Nat}{st:Option (List UInt8)}{w:World}(h:Qce B g st w)(m:Nat)(hm:m<=1099511627775):
  Calls Tryz.prog 49 #[.pointer (some ⟨g,0,none⟩),.int .i64 (m:Int)] w (Qbj B g (st.bind (numZ m)) w):=by
 by_cases hz:∃ r,st=some (48::r)
 ·obtain⟨r,rfl⟩:=hz;have HG:=hid (P9 (m:=m) (n:=0) (st:=some (48::r)) (r:=r) rfl);have e1:(some ((48:UInt8)::r)).bind (takeB 48)=some r:=takeB_self 48 r;have HT:=hid (Fc h 48 48 rfl e1);clear h e1;go_in;go_wp2_with fail;refine HT.o.mono ?_;rintro e w1⟨rfl,h1⟩;have H1:=hid h1;clear h1 HT;go_wp2;go_ret;exact⟨0,some r,rfl,by decide,by decide,HG.o,H1.o⟩
 have e1:st.bind (takeB 48)=none:=by
  cases st with
  | none=>rfl
  | some s=>exact Xs (b:=48) fun⟨r,e⟩=>hz ⟨r,by rw[e]⟩
 have HT:=hid (Fj h 48 48 rfl e1);obtain⟨R,hR⟩:∃ R,R=st.bind (numS m):=⟨_,rfl⟩;have hI:mi m R 0 st:=by
  unfold mi;cases st with
  | none=>exact hR
  | some s =>
   refine⟨?_,Cr _⟩;rw[hR];cases s with
   | nil=>rfl
   | cons c r =>
    show numS m (c::r)=_;rw[numS_cons,if_neg (fun e=>hz ⟨r,by rw[e]⟩)]
 have aB:=hid fun(e:R=none) v=>ig (m:=m) (st:=st) (by rw[<- hR];exact e) v;have aC:=hid fun n r (e:R=some (n,r))=>P9 (m:=m) (n:=n) (r:=r) (st:=st) (by rw[<- hR];exact e);have HI:=hid hI;have H0:=hid h;clear h e1 hz hR hI;generalize st.bind (numZ m)=RZ at aB aC |-;go_in;go_wp2_with fail;refine HT.o.mono ?_;rintro e w1⟨rfl,h1⟩;have H1:=hid h1;clear h1 HT;go_wp2;go_loopw [5] (fun v wr=>∃(n:Nat) (sn:Option (List UInt8)),v=.int .i64 n/\n<=m*10+9/\mi m R n sn/\Rpo B g sn w wr) (fun _ wr=>Ve wr g)
 case atStart=>exact⟨0,st,rfl,by omega,HI.o,H1.o⟩
 obtain⟨n,sn,rfl,hn,hi,hr⟩:=hrel;have HS:=hid hr;have aK:=hid hi;have HN:=hid hn;have aD:=hr.rd.cells;clear H1 HI hr hi;obtain⟨m0,m1,f0,f1,hB,hg⟩:=aD;clear m1 f1;by_cases hs:sn.getD []=[]
 ·have HE:=hid (Hc HS.o.rd hs);by_cases aH:n=0
  ·subst aH;have aQ:R=none:=by
    have:=aK.o;cases sn with
    | none=>exact this
    | some s=>rw[show s=[] from hs] at this;exact this.1
   have HG:=hid (aB.o aQ 0);have HF:=hid (En HS.o.rd);clear aB aC aQ hs m0;go_wp2_with (go_at_call 40;refine HE.o.mono ?_;rintro e w2⟨rfl,rfl⟩);refine HF.o.mono ?_;rintro e w2⟨rfl,h2⟩;have H2:=hid (HS.o.trans h2);clear h2;go_wp2;go_ret;exact⟨0,none,rfl,by decide,by decide,HG.o,H2.o⟩
  have HG:Hd (Got RZ (n:Int) sn):=hid (by
   have:=aK.o;cases sn with
   | none=>exact aB.o this _
   | some s =>
    rw[show s=[] from hs] at this |-;exact aC.o n [] (by rw[this.1];unfold numL;rw[if_neg aH]))
  have i1:((n:Int) == 0)=false:=by rw[Ak];omega
  clear aB aC hs m0;go_wp2_with (go_at_call 40;refine HE.o.mono ?_;rintro e w2⟨rfl,rfl⟩);go_ret;exact⟨n,sn,rfl,by omega,by have:=HN.o;omega,HG.o,HS.o⟩
 obtain⟨c,r,rfl⟩:∃ c r,sn=some (c::r):=by
  cases sn with
  | none=>exact absurd rfl hs
  | some s =>
   cases s with
   | nil=>exact absurd rfl hs
   | cons c r=>exact⟨c,r,rfl⟩
 have HE:=hid (Gf HS.o.rd);have aO:∀ W,(Instr.index 9 (.string (bsOf (c::r))) (.int .i64 0)).run Tryz.prog W=.ok (.int .u8 (c.toNat:Int)) W:=sidx (l:=c::r) (i:=0) rfl;rw[Bq] at m0;have aR:R=numL m n (c::r)/\n<=m:=aK.o;obtain⟨aA,aT⟩:=aR;rw[numL_cons] at aA;have aG:Hd (isD c=(decide (48<=c.toNat) && decide (c.toNat<=57))):=hid rfl;have aE:=hid (Lw HS.o.rd);have aI:Hd (Ve wr g=r.length+1):=hid (Gy HS.o.rd);obtain⟨b,hb⟩:∃ b,b=c.toNat:=⟨_,rfl⟩;have aM:nxV (some (c::r))=(b:Int):=by rw[hb];rfl
 have aN:nxS (some (c::r))=some r:=rfl;rw[aM,aN] at aE;rw[<- hb] at aO aA aG;clear hb aM aN aK;generalize bsOf (c::r)=sv at m0 aO;by_cases hd:48<=b/\b<=57
 ·have i1:(48:Int)<=(b:Int):=by omega
  have i2:(b:Int)<=57:=by omega
  have aF:isD c=true:=by rw[aG.o,Ae hd.1,Ae hd.2];rfl
  rw[if_pos aF] at aA;obtain⟨k,hk⟩:∃ k,k=b - 48:=⟨_,rfl⟩;obtain⟨p,hp⟩:∃ p,p=n*10:=⟨_,rfl⟩;obtain⟨a2,aP⟩:∃ a2,a2=p+k:=⟨_,rfl⟩;rw[<- hp,<- hk,<- aP] at aA;have e1:(b:Int) - 48=(k:Int):=by omega
  have e2:IntKind.u8.wrap (k:Int)=(k:Int):=by rw[IntKind.wrap_u8];omega
  have e3:(n:Int)*10=(p:Int):=by omega
  have e4:IntKind.i64.wrap (p:Int)=(p:Int):=by rw[Cm];omega
  have e5:(p:Int)+(k:Int)=(a2:Int):=by omega
  have e6:IntKind.i64.wrap (a2:Int)=(a2:Int):=by rw[Cm];omega
  have e7:IntKind.i64.wrap (k:Int)=(k:Int):=by rw[Cm];omega
  have HA:Hd (a2<=m*10+9):=hid (by omega);clear aF aG hd hk hp aP;by_cases aJ:m < a2
  ·have i3:(m:Int) < (a2:Int):=by omega
   rw[if_pos aJ] at aA;have aL:=hid aA;clear aA aJ hs aB aC;go_wp2_with (first | (go_at_call 40;refine HE.o.mono ?_;rintro e w2⟨rfl,rfl⟩) | (go_at_call 83;refine aE.o.mono ?_;rintro e w2⟨rfl,h2⟩));have H2:=hid (HS.o.trans h2);have HF:=hid (En h2.rd);clear h2;go_wp2_with fail;refine HF.o.mono ?_;rintro e w3⟨rfl,h3⟩;have H3:=hid (H2.o.trans h3);clear h3;go_wp2;go_roundw
   case rel=>exact⟨a2,none,by go_num,HA.o,aL.o,H3.o⟩
   rw[aI.o,Gy H3.o.rd];show 0 < _;omega
  have i3:¬ (m:Int) < (a2:Int):=by omega
  rw[if_neg aJ] at aA;have aL:Hd (R=numL m a2 r/\a2<=m):=hid ⟨aA,by omega⟩;clear aA aJ hs aB aC;go_wp2_with (first | (go_at_call 40;refine HE.o.mono ?_;rintro e w2⟨rfl,rfl⟩) | (go_at_call 83;refine aE.o.mono ?_;rintro e w2⟨rfl,h2⟩));have H2:=hid (HS.o.trans h2);clear h2;go_wp2;go_roundw
  case rel=>exact⟨a2,some r,by go_num,HA.o,aL.o,H2.o⟩
  rw[aI.o,Gy H2.o.rd];show r.length < _;omega
 have aF:isD c=false:=by
  rw[aG.o,Bool.and_eq_false_iff,decide_eq_false_iff_not,decide_eq_false_iff_not];omega
 rw[if_neg (by rw[aF];decide)] at aA;by_cases aH:n=0
 ·subst aH;rw[if_pos rfl] at aA;have HG:=hid (aB.o aA 0);have HF:=hid (En HS.o.rd);clear aB aC aA hs aG aF;rcases(by omega:b < 48\/48<=b/\57 < b) with h | ⟨h,h2⟩
  ·have i1:¬ (48:Int)<=(b:Int):=by omega
   clear h hd;go_wp2_with (go_at_call 40;refine HE.o.mono ?_;rintro e w2⟨rfl,rfl⟩);refine HF.o.mono ?_;rintro e w2⟨rfl,h2⟩;have H2:=hid (HS.o.trans h2);clear h2;go_wp2;go_ret;exact⟨0,none,rfl,by decide,by decide,HG.o,H2.o⟩
  have i1:(48:Int)<=(b:Int):=by omega
  have i2:¬ (b:Int)<=57:=by omega
  clear h h2 hd;go_wp2_with (go_at_call 40;refine HE.o.mono ?_;rintro e w2⟨rfl,rfl⟩);refine HF.o.mono ?_;rintro e w2⟨rfl,h2⟩;have H2:=hid (HS.o.trans h2);clear h2;go_wp2;go_ret;exact⟨0,none,rfl,by decide,by decide,HG.o,H2.o⟩
 rw[if_neg aH] at aA;have HG:=hid (aC.o _ _ aA);have i0:((n:Int) == 0)=false:=by rw[Ak];omega
 clear aB aC aA hs aG aF;rcases(by omega:b < 48\/48<=b/\57 < b) with h | ⟨h,h2⟩
 ·have i1:¬ (48:Int)<=(b:Int):=by omega
  clear h hd;go_wp2_with (go_at_call 40;refine HE.o.mono ?_;rintro e w2⟨rfl,rfl⟩);go_ret;exact⟨n,some (c::r),rfl,by omega,by have:=HN.o;omega,HG.o,HS.o⟩
 have i1:(48:Int)<=(b:Int):=by omega
 have i2:¬ (b:Int)<=57:=by omega
 clear h h2 hd;go_wp2_with (go_at_call 40;refine HE.o.mono ?_;rintro e w2⟨rfl,rfl⟩);go_ret;exact⟨n,some (c::r),rfl,by omega,by have:=HN.o;omega,HG.o,HS.o⟩
end Go.Proofs.YtfmndmhjjbeokaaGreatDoor
namespace Go.Proofs.YtfmndmhjjbeokaaGreatDoor
open Go.RowKit Tab
def Pur(v:Value)(w:World)(e:Ending)(w':World):Prop:=e=.returned v/\w=w'
def wiF(n a b:Int):Bool:=decide (a<=n) && decide (n<=b)
theorem Qcj(n a b:Int)(w:World):Calls Tryz.prog 118 #[.int .i64 n,.int .i64 a,.int .i64 b] w (Pur (.bool (wiF n a b)) w):=by
 have HV:Hd (wiF n a b=(decide (a<=n) && decide (n<=b))):=hid rfl;generalize wiF n a b=v at HV;go_in;by_cases h1:a<=n
 ·have e1:v=decide (n<=b):=by rw[HV.o,Ae h1];rfl
  have E1:=hid e1;clear e1 HV;by_cases h2:n<=b
  ·have E2:Hd (v=true):=hid (by rw[E1.o,Ae h2]);clear E1;go_wp2;go_ret;exact⟨by rw[E2.o];rfl,rfl⟩
  have E2:Hd (v=false):=hid (by rw[E1.o,Ac h2]);clear E1;go_wp2;go_ret;exact⟨by rw[E2.o];rfl,rfl⟩
 have E2:Hd (v=false):=hid (by rw[HV.o,Ac h1];rfl);clear HV;go_wp2;go_ret;exact⟨by rw[E2.o];rfl,rfl⟩
theorem Ng(n a b:Int)(w:World):Calls Tryz.prog 124 #[.int .i64 n,.int .i64 a,.int .i64 b] w (Pur (.bool (wiF n a b)) w):=by
 have HV:Hd (wiF n a b=(decide (a<=n) && decide (n<=b))):=hid rfl;generalize wiF n a b=v at HV;go_in;by_cases h1:a<=n
 ·have e1:v=decide (n<=b):=by rw[HV.o,Ae h1];rfl
  have E1:=hid e1;clear e1 HV;by_cases h2:n<=b
  ·have E2:Hd (v=true):=hid (by rw[E1.o,Ae h2]);clear E1;go_wp2;go_ret;exact⟨by rw[E2.o];rfl,rfl⟩
  have E2:Hd (v=false):=hid (by rw[E1.o,Ac h2]);clear E1;go_wp2;go_ret;exact⟨by rw[E2.o];rfl,rfl⟩
 have E2:Hd (v=false):=hid (by rw[HV.o,Ac h1];rfl);clear HV;go_wp2;go_ret;exact⟨by rw[E2.o];rfl,rfl⟩
def leF(b:Nat):Bool:=decide (97<=b) && decide (b<=122)
def diF(b:Nat):Bool:=decide (48<=b) && decide (b<=57)
theorem Vc(b:Nat)(w:World):Calls Tryz.prog 138 #[.int .u8 (b:Int)] w (Pur (.bool (leF b)) w):=by
 have HV:Hd (leF b=(decide (97<=b) && decide (b<=122))):=hid rfl;generalize leF b=v at HV;go_in;by_cases h1:97<=b
 ·have e1:v=decide (b<=122):=by rw[HV.o,Ae h1];rfl
  have E1:=hid e1;have aB:(97:Int)<=(b:Int):=by omega
  clear e1 HV;by_cases h2:b<=122
  ·have E2:Hd (v=true):=hid (by rw[E1.o,Ae h2]);have aA:(b:Int)<=122:=by omega
   clear E1 h1 h2;go_wp2;go_ret;exact⟨by rw[E2.o];rfl,rfl⟩
  have E2:Hd (v=false):=hid (by rw[E1.o,Ac h2]);have aA:¬ (b:Int)<=122:=by omega
  clear E1 h1 h2;go_wp2;go_ret;exact⟨by rw[E2.o];rfl,rfl⟩
 have E2:Hd (v=false):=hid (by rw[HV.o,Ac h1];rfl);have aB:¬ (97:Int)<=(b:Int):=by omega
 clear HV h1;go_wp2;go_ret;exact⟨by rw[E2.o];rfl,rfl⟩
theorem Zb(b:Nat)(w:World):Calls Tryz.prog 139 #[.int .u8 (b:Int)] w (Pur (.bool (diF b)) w):=by
 have HV:Hd (diF b=(decide (48<=b) && decide (b<=57))):=hid rfl;generalize diF b=v at HV;go_in;by_cases h1:48<=b
 ·have e1:v=decide (b<=57):=by rw[HV.o,Ae h1];rfl
  have E1:=hid e1;have aB:(48:Int)<=(b:Int):=by omega
  clear e1 HV;by_cases h2:b<=57
  ·have E2:Hd (v=true):=hid (by rw[E1.o,Ae h2]);have aA:(b:Int)<=57:=by omega
   clear E1 h1 h2;go_wp2;go_ret;exact⟨by rw[E2.o];rfl,rfl⟩
  have E2:Hd (v=false):=hid (by rw[E1.o,Ac h2]);have aA:¬ (b:Int)<=57:=by omega
  clear E1 h1 h2;go_wp2;go_ret;exact⟨by rw[E2.o];rfl,rfl⟩
 have E2:Hd (v=false):=hid (by rw[HV.o,Ac h1];rfl);have aB:¬ (48:Int)<=(b:Int):=by omega
 clear HV h1;go_wp2;go_ret;exact⟨by rw[E2.o];rfl,rfl⟩
theorem bo(b p:Int)(w:World):Calls Tryz.prog 123 #[.int .i64 b,.int .i64 p] w (Pur (.bool (pbF b p)) w):=by
 have HV:Hd (pbF b p=((decide (b=0) && decide (p=0)) || (wiF b 1 4096 && wiF p b 4096))):=hid rfl;generalize pbF b p=v at HV;have HZ:Hd (b=0->wiF b 1 4096=false):=hid fun h=>by rw[h];rfl
 have H1:=hid fun V=>Ng b 1 4096 V;have H2:=hid fun V=>Ng p b 4096 V;generalize wiF b 1 4096=q1 at H1 HV HZ;generalize wiF p b 4096=q2 at H2 HV;go_in;by_cases h0:b=0
 ·have hq:(b == 0)=true:=Ck.2 h0;have E0:Hd (v=decide (p=0)):=hid (by rw[HV.o,Ae h0,HZ.o h0];simp);clear HV HZ h0 H1 H2;by_cases h1:p=0
  ·have hp:(p == 0)=true:=Ck.2 h1;have E2:Hd (v=true):=hid (by rw[E0.o,Ae h1]);clear E0 h1;go_wp2;go_ret;exact⟨by rw[E2.o];rfl,rfl⟩
  have hp:(p == 0)=false:=Ak.2 h1;have E2:Hd (v=false):=hid (by rw[E0.o,Ac h1]);clear E0 h1;go_wp2;go_ret;exact⟨by rw[E2.o];rfl,rfl⟩
 have hq:(b == 0)=false:=Ak.2 h0;have E0:Hd (v=(q1 && q2)):=hid (by rw[HV.o,Ac h0];rfl);clear HV HZ h0;cases q1
 ·have E2:Hd (v=false):=hid (by rw[E0.o];rfl);clear E0;go_wp2_with fail;refine(H1.o _).mono ?_;rintro e w5⟨rfl,rfl⟩;go_wp2;go_ret;exact⟨by rw[E2.o];rfl,rfl⟩
 have E2:Hd (v=q2):=hid (by rw[E0.o];rfl);clear E0;go_wp2_with fail;refine(H1.o _).mono ?_;rintro e w5⟨rfl,rfl⟩;go_wp2_with fail;refine(H2.o _).mono ?_;rintro e w5⟨rfl,rfl⟩;go_wp2;go_ret;exact⟨by rw[E2.o];rfl,rfl⟩
theorem Vi(hf:Nat->Int)(w:World):Calls Tryz.prog 122 #[.agg #[.int .i64 (hf 0),.int .i64 (hf 1),.int .i64 (hf 2),.int .i64 (hf 3),.int .i64 (hf 4)]] w (Ans (.bool ((List.range 5).all fun j=>hlF (hf j))) w):=by
 have aD:Hd (∀ j,j < 5->hlF (hf j)=false->(List.range 5).all (fun j=>hlF (hf j))=false):=hid fun j hj h=>by
  rw[List.all_eq_false];exact⟨j,Cx.2 hj,by rw[h];simp⟩
 have aA:Hd ((∀ j,j < 5->hlF (hf j)=true)->(List.range 5).all (fun j=>hlF (hf j))=true):=hid fun h=>by
  rw[Ct];exact fun j hj=>h j (Cx.1 hj)
 generalize (List.range 5).all (fun j=>hlF (hf j))=v at aD aA |-;have aB:=hid (bl1 w (.cells #[.int .i64 (hf 0),.int .i64 (hf 1),.int .i64 (hf 2),.int .i64 (hf 3),.int .i64 (hf 4)] 58));have HZ:Hd (∀ j:Nat,j < 5->∀ W,(Instr.index 58 (.agg #[Value.int .i64 (hf 0),.int .i64 (hf 1),.int .i64 (hf 2),.int .i64 (hf 3),.int .i64 (hf 4)]) (.int .i64 (j:Int))).run Tryz.prog W=.ok (.int .i64 (hf j)) W):=hid fun j hj=>by
  rcases(by omega:j=0\/j=1\/j=2\/j=3\/j=4) with rfl | rfl | rfl | rfl | rfl <;> exact fun W=>by simp[Instr.index,go_sem]
 generalize hf 0=h0 at HZ aB |-;generalize hf 1=h1 at HZ aB |-;generalize hf 2=h2 at HZ aB |-;generalize hf 3=h3 at HZ aB |-;generalize hf 4=h4 at HZ aB |-;go_in;go_wp2;go_loopw [4,6] (fun _ s wx=>∃ j:Nat,j<=5/\s=.int .i64 j/\(∀ k,k < j->hlF (hf k)=true)/\Below w.heap.size w wx) (fun _ s _=>5 - (intOf s).toNat)
 case atStart=>exact⟨0,by omega,rfl,fun k hk=>by omega,aB.o⟩
 obtain⟨j,hj,rfl,aF,hb⟩:=hrel;have aC:=hid aF;clear aF;by_cases aG:j < 5
 ·have hz:=HZ.o j aG;have aE:(j:Int) < 5:=by omega
  have aI:Hd (hlF (hf j)=true->∀ k,k < j+1->hlF (hf k)=true):=hid fun h k hk=>by
   rcases Bk k j with h5 | h5
   ·exact aC.o k h5
   obtain rfl:k=j:=by omega
   exact h
  have aJ:=hid (aD.o j aG);clear HZ aD aA aC;generalize hf j=z at hz aI aJ;have aH:Hd (hlF z=(decide (0<=z) && decide (z<=2))):=hid rfl;rcases(by omega:z < 0\/2 < z\/z=0\/z=1\/z=2) with h5 | h5 | h5 | h5 | h5
  all_goals
   first
   | (have k5:hlF z=true:=by
       rw[aH.o,Ae (show 0<=z by omega),Ae (show z<=2 by omega)];rfl)
   | (have k5:hlF z=false:=by
       rw[aH.o]
       first
       | rw[Ac (show ¬ 0<=z by omega)];rfl
       | rw[Ac (show ¬ z<=2 by omega)];simp)
   have K5:=hid k5;clear k5
   first
    | have i1:(z != 0)=true:=Bz.2 (by omega)
    | have i1:(z != 0)=false:=by simp;omega
   first
    | have i2:(z != 1)=true:=Bz.2 (by omega)
    | have i2:(z != 1)=false:=by simp;omega
   first
    | have i3:(z != 2)=true:=Bz.2 (by omega)
    | have i3:(z != 2)=false:=by simp;omega
   clear h5;go_wp2_with fail
   first
   | (go_ret;exact Ans.mk (by rw[aJ.o K5.o];rfl) hb)
   | (go_roundw
      case rel=>exact⟨j+1,by omega,by go_num,aI.o K5.o,hb⟩
      simp[intOf];omega)
 have aE:¬ (j:Int) < 5:=by omega
 have HV:=hid (aA.o fun k hk=>aC.o k (by omega));clear aD aA aC HZ;go_wp2;go_ret;exact Ans.mk (by rw[HV.o];rfl) hb
