import Derived.Test.YtfmndmhjjbeokaaGreatDoorLow31
import Derived.Test.YtfmndmhjjbeokaaGreatDoorLow29
import Derived.Test.YtfmndmhjjbeokaaGreatDoorLow25
namespace Go.Proofs.YtfmndmhjjbeokaaGreatDoor
namespace Txt
open Tab
set_option linter.unusedSimpArgs false
set_option linter.unusedVariables false
def Got {α:Type} (R:Option (α×List UInt8)) (v:α) (st:Option (List UInt8)):Prop:=st=R.map (·.2)∧∀ x,R=some x→v=x.1
theorem Got.bind {α β:Type} {st st':Option (List UInt8)} {f:List UInt8→Option (α×List UInt8)} {v:α} (h:Got (st.bind f) v st') (k:α→List UInt8→Option β):(st.bind fun s=>(f s).bind fun x=>k x.1 x.2)=st'.bind fun s=>k v s:=by
 obtain ⟨rfl,h2⟩:=h
 cases st with
 | none=>rfl
 | some s =>
  cases e:f s with
  | none=>show (f s).bind _=((f s).map _).bind _;rw [e];rfl
  | some x =>
   have:=h2 x (by show f s=_;rw [e])
   show (f s).bind _=((f s).map _).bind _
   rw [e,this]
   rfl
theorem must_bind {β:Type} (st:Option (List UInt8)) (b:UInt8) (k:List UInt8→Option β):(st.bind fun s=>(takeB b s).bind k)=(st.bind (takeB b)).bind k:=(Option.bind_assoc _ _ _).symm
theorem Got.end_ {α:Type} (v:α) (st:Option (List UInt8)):Got (st.bind fun s=>some (v,s)) v st:=by
 cases st with
 | none=>exact ⟨rfl,fun x h=>by cases h⟩
 | some s=>exact ⟨rfl,fun x h=>by injection h with h;rw [← h]⟩
def isB (b c:UInt8):Bool:=decide (c=b)
def nameS (s:List UInt8):Option (List UInt8×List UInt8):=if nameF (bsOf (aheadT (isB 32) s))=true then some (aheadT (isB 32) s,behindT (isB 32) s) else none
def knownS (names:List (List UInt8)) (b:UInt8) (s:List UInt8):Option (Int×List UInt8):=if findF names (aheadT (isB b) s) < 0 then none else some (findF names (aheadT (isB b) s),behindT (isB b) s)
def numW (s:List UInt8):Option (Int×List UInt8):=(numS lim40 s).map fun x=>((x.1:Int),x.2)
def numZ (m:Nat) (s:List UInt8):Option (Int×List UInt8):=(numS m s).map fun x=>((x.1:Int),x.2)
def flagS (s:List UInt8):Option ((Bool×Bool)×List UInt8):=match takeB 45 s with
 | some r=>some ((false,false),r)
 | none=>match takeB 115 s with
  | some r=>match takeB 116 r with
   | some q=>some ((true,true),q)
   | none=>some ((true,false),r)
  | none=>(takeB 116 s).map fun r=>((false,true),r)
def dgS (c:UInt8):Bool:=decide (48≤c.toNat∧c.toNat≤50)
def healS:Nat→List UInt8→Option (List Int×List UInt8)
 | 0,s=>some ([],s)
 | _+1,[]=>none
 | k+1,c::r=>if dgS c=true then (healS k r).map fun x=>(((c.toNat:Int) - 48)::x.1,x.2) else none
theorem healS_cons (k:Nat) (c:UInt8) (r:List UInt8):healS (k+1) (c::r)=if dgS c=true then (healS k r).map fun x=>(((c.toNat:Int) - 48)::x.1,x.2) else none:=rfl
def procS (s:List UInt8):Option ((Int×Int)×List UInt8):=(numW s).bind fun e=>(takeB 58 e.2).bind fun r=>(numW r).bind fun q=>some ((e.1,q.1),q.2)
def procsS:Nat→List UInt8→Option (List (Int×Int)×List UInt8)
 | 0,_=>none
 | k+1,s=>match procS s with
  | none=>none
  | some x=>match takeB 44 x.2 with
   | none=>some ([x.1],x.2)
   | some r=>(procsS k r).map fun y=>(x.1::y.1,y.2)
theorem procsS_succ (k:Nat) (s:List UInt8):procsS (k+1) s=match procS s with
  | none=>none
  | some x=>match takeB 44 x.2 with
   | none=>some ([x.1],x.2)
   | some r=>(procsS k r).map fun y=>(x.1::y.1,y.2):=rfl
def procsA (s:List UInt8):Option (List (Int×Int)×List UInt8):=procsS (s.length+1) s
def partV (nm:List UInt8) (b p:Int) (f:Bool×Bool) (h:List Int) (L:List (Int×Int)):Pq:=(⟨bsOf nm,b,p,f.1,f.2,none,L.length,L.length,h.getD 0 0,h.getD 1 0,h.getD 2 0,h.getD 3 0,h.getD 4 0⟩,L)
def partS (s:List UInt8):Option (Pq×List UInt8) :=
 (takeB 32 s).bind fun s=>(nameS s).bind fun nm=>(takeB 32 nm.2).bind fun s=>(numW s).bind fun b=>(takeB 32 b.2).bind fun s=>(numW s).bind fun p=>(takeB 32 p.2).bind fun s=>(flagS s).bind fun f=>(takeB 32 f.2).bind fun s=>(healS 5 s).bind fun h=>(takeB 32 h.2).bind fun s=>(procsA s).bind fun L=>some (partV nm.1 b.1 p.1 f.1 h.1 L.1,L.2)
def kindS (s:List UInt8):Option ((Bool×Int)×List UInt8):=match takeB 113 s with
 | some r=>(numW r).map fun x=>((true,x.1),x.2)
 | none=>(takeB 115 s).map fun r=>((false,0),r)
def chanS (names:List (List UInt8)) (s:List UInt8):Option (ChV×List UInt8) :=
 (takeB 32 s).bind fun s=>(knownS names 32 s).bind fun a=>(takeB 32 a.2).bind fun s=>(knownS names 32 s).bind fun b=>(takeB 32 b.2).bind fun s=>(kindS s).bind fun k=>(takeB 32 k.2).bind fun s=>(numZ lim32 s).bind fun m=>(takeB 32 m.2).bind fun s=>(numW s).bind fun l=>some (⟨a.1,b.1,k.1.1,k.1.2,m.1,l.1⟩,l.2)
def tabS (names:List (List UInt8)) (s:List UInt8):Option (NdT×List UInt8) :=
 (takeB 32 s).bind fun s=>(tableS (knownS names 58) s).bind fun t=>some (ndT0 t.1,t.2)
def lineS (c:Cft) (s:List UInt8):Option (Cft×List UInt8) :=
 if s=[]∨s.head? = some 35 then some (c,[]) else
 if aheadT (isB 32) s=wPart then (partS (behindT (isB 32) s)).map fun x=>(⟨c.P++[x.1],c.C,c.T⟩,x.2)
 else if aheadT (isB 32) s=wChan then (chanS (namesP c.P) (behindT (isB 32) s)).map fun x=>(⟨c.P,c.C++[x.1],c.T⟩,x.2)
 else if aheadT (isB 32) s=wTable then (tabS (namesP c.P) (behindT (isB 32) s)).map fun x=>(⟨c.P,c.C,c.T++[x.1]⟩,x.2)
 else none
def lineD (c:Cft) (s:List UInt8):Option Cft:=match lineS c s with
 | none=>none
 | some x=>if x.2=[] then some x.1 else none
def linesQ:Nat→Cft→List (List UInt8)→Nat ⊕ Cft
 | _,c,[]=>.inr c
 | i,c,x::l=>match lineD c x with
  | none=>.inl (i+1)
  | some c'=>linesQ (i+1) c' l
theorem linesQ_cons (i:Nat) (c:Cft) (x:List UInt8) (l:List (List UInt8)):linesQ i c (x::l)=match lineD c x with
  | none=>.inl (i+1)
  | some c'=>linesQ (i+1) c' l:=rfl
noncomputable def parseQ (s:List UInt8):Int×Int×Cft :=
 if 16384 < s.length then (3,0,cft0) else match linesQ 0 cft0 (splitF 10 s) with
 | .inl i=>(12,(i:Int),cft0)
 | .inr c=>if (whereF c.P c.C c.T).1=0 then (0,0,c) else ((whereF c.P c.C c.T).1,0,cft0)
theorem ahead_word {b:UInt8} {w t:List UInt8} (hw:b ∉ w) (ht:∀ c,t.head? = some c→c=b):aheadT (isB b) (w++t)=w∧behindT (isB b) (w++t)=t :=
 ahead_at (isB b) (fun c hc=>decide_eq_false fun e=>hw (e▸hc)) fun c hc=>decide_eq_true (ht c hc)
theorem split_words (b:UInt8):∀ s:List UInt8,joinB b (splitF b s)=s
 | []=>rfl
 | c::s=>by
  rw [splitF_cons]
  have ih:=split_words b s
  split
  ·rename_i hc
   cases hs:splitF b s with
   | nil=>exact absurd hs (split_ne b s)
   | cons x l =>
    rw [hs] at ih
    show []++b::joinB b (x::l)=_
    rw [ih,hc]
    rfl
  ·split
   ·rename_i hs;exact absurd hs (split_ne b s)
   ·rename_i x l hs
    rw [hs] at ih
    cases l with
    | nil=>show c::x=c::s;rw [show x=s from ih]
    | cons y l=>show (c::x)++b::joinB b (y::l)=c::s;rw [List.cons_append];rw [show x++b::joinB b (y::l)=s from ih]
theorem split_free (b:UInt8):∀ s:List UInt8,∀ w∈splitF b s,b ∉ w
 | [],w,hw=>by
  have:w=[]:=by simpa [splitF] using hw
  rw [this]
  simp
 | c::s,w,hw=>by
  rw [splitF_cons] at hw
  have ih:=split_free b s
  split at hw
  ·rcases List.mem_cons.1 hw with rfl | hw
   ·simp
   ·exact ih w hw
  ·rename_i hc
   split at hw
   ·rename_i hs;exact absurd hs (split_ne b s)
   ·rename_i x l hs
    rw [hs] at ih
    rcases List.mem_cons.1 hw with rfl | hw
    ·intro hm
     rcases List.mem_cons.1 hm with e | hm
     ·exact hc e.symm
     ·exact ih x (by simp) hm
    ·exact ih w (by simp [hw])
theorem nameS_at {w t:List UInt8} (hn:nameF (bsOf w)=true) (hw:(32:UInt8) ∉ w) (ht:∀ c,t.head? = some c→c=32):nameS (w++t)=some (w,t):=by
 obtain ⟨h1,h2⟩:=ahead_word hw ht
 unfold nameS
 rw [h1,h2,if_pos hn]
theorem knownS_at {names:List (List UInt8)} {b:UInt8} {w t:List UInt8} (hn:0≤findF names w) (hw:b ∉ w) (ht:∀ c,t.head? = some c→c=b):knownS names b (w++t)=some (findF names w,t):=by
 obtain ⟨h1,h2⟩:=ahead_word hw ht
 unfold knownS
 rw [h1,h2,if_neg (by omega)]
theorem numZ_at {m:Nat} {w t:List UInt8} (hv:(valF m w).2=true) (ht:∀ c,t.head? = some c→isD c=false):numZ m (w++t)=some (((valF m w).1:Int),t):=by
 obtain ⟨h1,h2⟩:=valF_inv hv
 have:=numS_num h2 ht
 rw [← h1] at this
 unfold numZ
 rw [this]
 rfl
theorem numW_at {w t:List UInt8} (hv:(valF lim40 w).2=true) (ht:∀ c,t.head? = some c→isD c=false):numW (w++t)=some (((valF lim40 w).1:Int),t):=numZ_at hv ht
theorem flagS_at {w t:List UInt8} {f:Bool×Bool} (hf:flagP w=some f) (ht:∀ c,t.head? = some c→c≠116):flagS (w++t)=some (f,t):=by
 have h116:takeB 116 t=none:=by
  cases t with
  | nil=>rfl
  | cons c r=>exact takeB_ne (ht c rfl) r
 unfold flagP at hf
 split at hf
 ·rename_i e
  injection hf with hf
  subst e;subst hf
  rfl
 ·split at hf
  ·rename_i e
   injection hf with hf
   subst e;subst hf
   show (match takeB 116 t with | some q=>some ((true,true),q) | none=>some ((true,false),t))=_
   rw [h116]
  ·split at hf
   ·rename_i e
    injection hf with hf
    subst e;subst hf
    rfl
   ·split at hf
    ·rename_i e
     injection hf with hf
     subst e;subst hf
     rfl
    ·cases hf
theorem healS_at {w t:List UInt8} {h:Int×Int×Int×Int×Int} (hh:healP w=some h):healS 5 (w++t)=some ([h.1,h.2.1,h.2.2.1,h.2.2.2.1,h.2.2.2.2],t):=by
 unfold healP at hh
 split at hh
 ·rename_i a b c d e
  split at hh
  ·rename_i hc
   simp only [Bool.and_eq_true] at hc
   injection hh with hh
   subst hh
   obtain ⟨⟨h1,h2⟩,h3,h4,h5⟩:=hc
   show healS 5 (a::b::c::d::e::t)=_
   rw [healS_cons,show dgS a=true from h1,if_pos rfl,healS_cons,show dgS b=true from h2,if_pos rfl,healS_cons,show dgS c=true from h3,if_pos rfl,healS_cons,show dgS d=true from h4,if_pos rfl,healS_cons,show dgS e=true from h5,if_pos rfl]
   rfl
  ·cases hh
 ·cases hh
theorem procS_at {w t:List UInt8} {q:Int×Int} (hq:procP w=some q) (ht:∀ c,t.head? = some c→isD c=false):procS (w++t)=some (q,t):=by
 unfold procP at hq
 split at hq
 ·rename_i e p hs
  split at hq
  ·rename_i hv
   rw [Bool.and_eq_true] at hv
   injection hq with hq
   subst hq
   have hw:=split_words 58 w
   rw [hs] at hw
   have hw:e++58::p=w:=hw
   unfold procS
   rw [← hw,List.append_assoc,numW_at hv.1 (t:=(58::p)++t) (fun c hc=>by injection hc with hc;rw [← hc];rfl)]
   rw [Option.bind_some]
   dsimp only
   rw [List.cons_append,takeB_self,Option.bind_some,numW_at hv.2 ht]
   rfl
  ·cases hq
 ·cases hq
theorem procsS_at:∀ (W:List (List UInt8)) (L:List (Int×Int)),W≠[]→procsP W=some L→∀ k,W.length≤k→procsS k (joinB 44 W)=some (L,[])
 | [],_,h,_,_,_=>absurd rfl h
 | x::W,L,_,h,0,hk=>by simp at hk
 | x::W,L,_,h,k+1,hk=>by
  unfold procsP at h
  cases hx:procP x with
  | none=>rw [hx] at h;cases h
  | some q =>
   rw [hx] at h
   dsimp only at h
   cases hL:procsP W with
   | none=>rw [hL] at h;cases h
   | some L' =>
    rw [hL] at h
    injection h with h
    subst h
    rw [procsS_succ]
    cases W with
    | nil =>
     have:=procS_at (t:=[]) hx (by intro c hc;cases hc)
     rw [List.append_nil] at this
     show (match procS x with | none=>none | some x=>_)=_
     rw [this]
     injection hL with hL
     subst hL
     rfl
    | cons y W =>
     have:=procS_at (t:=44::joinB 44 (y::W)) hx (by intro c hc;injection hc with hc;rw [← hc];rfl)
     show (match procS (x++44::joinB 44 (y::W)) with | none=>none | some x=>_)=_
     rw [this]
     dsimp only
     rw [takeB_self]
     dsimp only
     rw [procsS_at (y::W) L' (by simp) hL k (by simpa using hk)]
     rfl
theorem join_len (b:UInt8):∀ W:List (List UInt8),W.length≤(joinB b W).length+1
 | []=>by simp
 | [x]=>by simp
 | x::y::l=>by
  have:=join_len b (y::l)
  show _≤(x++b::joinB b (y::l)).length+1
  rw [List.length_append]
  simp only [List.length_cons] at this ⊢
  omega
theorem procsA_at {w:List UInt8} {L:List (Int×Int)} (h:procsP (splitF 44 w)=some L):procsA w=some (L,[]):=by
 have hw:=split_words 44 w
 have hl:=join_len 44 (splitF 44 w)
 rw [hw] at hl
 have:=procsS_at (splitF 44 w) L (split_ne 44 w) h (w.length+1) hl
 rw [hw] at this
 exact this
theorem sp_head {x:List UInt8} (c:UInt8) (hc:((32:UInt8)::x).head? = some c):c=32:=by
 injection hc with hc
 exact hc.symm
theorem sp_isD {x:List UInt8} (c:UInt8) (hc:((32:UInt8)::x).head? = some c):isD c=false:=by
 rw [sp_head c hc]
 rfl
theorem partS_at {w0 w1 w2 w3 w4 w5 w6:List UInt8} {y:Pq} (h:partP [w0,w1,w2,w3,w4,w5,w6]=some y) (h1:(32:UInt8) ∉ w1):partS (32::(w1++32::(w2++32::(w3++32::(w4++32::(w5++32::w6))))))=some (y,[]):=by
 unfold partP at h
 dsimp only at h
 split at h
 ·rename_i hv
  simp only [Bool.and_eq_true] at hv
  obtain ⟨v2,v3,v1⟩:=hv
  cases hf:flagP w4 with
  | none=>rw [hf] at h;cases h
  | some f =>
   cases hh:healP w5 with
   | none=>rw [hf,hh] at h;cases h
   | some hq =>
    cases hL:procsP (splitF 44 w6) with
    | none=>rw [hf,hh,hL] at h;cases h
    | some L =>
     rw [hf,hh,hL] at h
     injection h with h
     subst h
     unfold partS
     rw [takeB_self,Option.bind_some,nameS_at v1 h1 sp_head,Option.bind_some]
     dsimp only
     rw [takeB_self,Option.bind_some,numW_at v2 sp_isD,Option.bind_some]
     dsimp only
     rw [takeB_self,Option.bind_some,numW_at v3 sp_isD,Option.bind_some]
     dsimp only
     rw [takeB_self,Option.bind_some,flagS_at hf (fun c hc=>by rw [sp_head c hc];decide),Option.bind_some]
     dsimp only
     rw [takeB_self,Option.bind_some,healS_at hh,Option.bind_some]
     dsimp only
     rw [takeB_self,Option.bind_some,procsA_at hL,Option.bind_some]
     rfl
 ·cases h
theorem chanS_at {names:List (List UInt8)} {w0 w1 w2 w3 w4 w5:List UInt8} {y:ChV} (h:chanP names [w0,w1,w2,w3,w4,w5]=some y) (h1:(32:UInt8) ∉ w1) (h2:(32:UInt8) ∉ w2):chanS names (32::(w1++32::(w2++32::(w3++32::(w4++32::w5)))))=some (y,[]):=by
 unfold chanP at h
 dsimp only at h
 split at h
 ·rename_i hv
  simp only [Bool.and_eq_true,decide_eq_true_eq] at hv
  obtain ⟨v1,v2,v4,v5⟩:=hv
  unfold chanS
  rw [takeB_self,Option.bind_some,knownS_at v1 h1 sp_head,Option.bind_some]
  dsimp only
  rw [takeB_self,Option.bind_some,knownS_at v2 h2 sp_head,Option.bind_some]
  dsimp only
  have h5:=numW_at v5 (t:=[]) (by intro c hc;cases hc)
  rw [List.append_nil] at h5
  split at h
  ·cases h
  ·rename_i k r
   split at h
   ·rename_i hk
    split at h
    ·rename_i hr
     injection h with h
     subst h;subst hk
     have e:kindS ((113::r)++32::(w4++32::w5))=some ((true,((valF lim40 r).1:Int)),32::(w4++32::w5)):=by
      show (numW (r++32::(w4++32::w5))).map _=_
      rw [numW_at hr sp_isD]
      rfl
     rw [takeB_self,Option.bind_some,e,Option.bind_some]
     dsimp only
     rw [takeB_self,Option.bind_some,numZ_at v4 sp_isD,Option.bind_some]
     dsimp only
     rw [takeB_self,Option.bind_some,h5]
     rfl
    ·cases h
   ·split at h
    ·rename_i hk
     injection h with h
     subst h
     obtain ⟨rfl,rfl⟩:=hk
     have e:kindS ([115]++32::(w4++32::w5))=some ((false,0),32::(w4++32::w5)):=rfl
     rw [takeB_self,Option.bind_some,e,Option.bind_some]
     dsimp only
     rw [takeB_self,Option.bind_some,numZ_at v4 sp_isD,Option.bind_some]
     dsimp only
     rw [takeB_self,Option.bind_some,h5]
     rfl
    ·cases h
 ·cases h
theorem ahead_all (p:UInt8→Bool):∀ (s:List UInt8),∀ c∈aheadT p s,p c=false
 | [],c,h=>by cases h
 | x::s,c,h=>by
  unfold aheadT at h
  rw [List.takeWhile_cons] at h
  split at h
  ·rename_i hx
   rcases List.mem_cons.1 h with rfl | h
   ·simpa using hx
   ·exact ahead_all p s c h
  ·cases h
theorem look_known (names:List (List UInt8)):LookS (findF names) (knownS names 58):=fun s r hl hr=>by
 have h:=takeB_some hr
 have e:=ahead_behind st4 s
 have hw:(58:UInt8) ∉ aheadT st4 s:=fun hm=>by
  have:=ahead_all st4 s _ hm
  simp [st4] at this
 have:=knownS_at (b:=58) hl hw (t:=behindT st4 s) (by rw [h];intro c hc;injection hc with hc;exact hc.symm)
 rw [e] at this
 exact this
theorem tabS_at {names:List (List UInt8)} {w0 w1:List UInt8} {y:NdT} (h:tabP names [w0,w1]=some y):tabS names (32::w1)=some (y,[]):=by
 unfold tabP at h
 dsimp only at h
 cases ht:tableR (findF names) w1 with
 | none=>rw [ht] at h;cases h
 | some l =>
  rw [ht] at h
  injection h with h
  subst h
  unfold tabS
  rw [takeB_self,Option.bind_some,tableR_S (look_known names) ht]
  rfl
theorem join_cons (b:UInt8) (x:List UInt8) {l:List (List UInt8)} (h:l≠[]):joinB b (x::l)=x++b::joinB b l:=by
 cases l with
 | nil=>exact absurd rfl h
 | cons y l=>rfl
theorem lineD_at {c c':Cft} {s:List UInt8} (hs:skipB s=false) (h:wordsP c (splitF 32 s)=some c'):lineD c s=some c':=by
 have hj:=split_words 32 s
 have hfr:=split_free 32 s
 have h0:¬ (s=[]∨s.head? = some 35):=by
  unfold skipB at hs
  simpa using hs
 generalize splitF 32 s=W at h hj hfr
 unfold lineD lineS
 rw [if_neg h0]
 have hah:∀ (w0:List UInt8) (l:List (List UInt8)),W=w0::l→aheadT (isB 32) s=w0∧behindT (isB 32) s=if l=[] then [] else 32::joinB 32 l:=fun w0 l e=>by
  subst e
  have hw0:=hfr w0 (by simp)
  by_cases hl:l=[]
  ·subst hl
   have:=ahead_word (t:=[]) hw0 (by intro c hc;cases hc)
   rw [List.append_nil,show w0=s from hj] at this
   rw [if_pos rfl,this.2]
   exact ⟨this.1.trans hj.symm,rfl⟩
  ·have:=ahead_word (t:=32::joinB 32 l) hw0 sp_head
   rw [← join_cons 32 w0 hl,hj] at this
   rw [if_neg hl]
   exact this
 unfold wordsP at h
 split at h
 ·rename_i hw
  cases hp:partP W with
  | none=>rw [hp] at h;cases h
  | some y =>
   rw [hp] at h
   injection h with h
   subst h
   have:∃ w1 w2 w3 w4 w5 w6,W=[wPart,w1,w2,w3,w4,w5,w6]:=by
    unfold partP at hp
    split at hp
    ·rename_i w0 w1 w2 w3 w4 w5 w6
     have e:w0=wPart:=by simpa using hw
     exact ⟨w1,w2,w3,w4,w5,w6,by rw [e]⟩
    ·cases hp
   obtain ⟨w1,w2,w3,w4,w5,w6,e⟩:=this
   obtain ⟨a1,a2⟩:=hah _ _ e
   subst e
   rw [a1,a2,if_pos rfl,if_neg (by simp)]
   have e:partS (32::joinB 32 [w1,w2,w3,w4,w5,w6])=some (y,[]):=partS_at hp (hfr w1 (by simp))
   rw [e]
   rfl
 ·rename_i hw1
  split at h
  ·rename_i hw
   cases hp:chanP (namesP c.P) W with
   | none=>rw [hp] at h;cases h
   | some y =>
    rw [hp] at h
    injection h with h
    subst h
    have:∃ w1 w2 w3 w4 w5,W=[wChan,w1,w2,w3,w4,w5]:=by
     unfold chanP at hp
     split at hp
     ·rename_i w0 w1 w2 w3 w4 w5
      have e:w0=wChan:=by simpa using hw
      exact ⟨w1,w2,w3,w4,w5,by rw [e]⟩
     ·cases hp
    obtain ⟨w1,w2,w3,w4,w5,e⟩:=this
    obtain ⟨a1,a2⟩:=hah _ _ e
    subst e
    rw [a1,a2,if_neg (by decide),if_pos rfl,if_neg (by simp)]
    have e:chanS (namesP c.P) (32::joinB 32 [w1,w2,w3,w4,w5])=some (y,[]):=chanS_at hp (hfr w1 (by simp)) (hfr w2 (by simp))
    rw [e]
    rfl
  ·rename_i hw2
   split at h
   ·rename_i hw
    cases hp:tabP (namesP c.P) W with
    | none=>rw [hp] at h;cases h
    | some y =>
     rw [hp] at h
     injection h with h
     subst h
     have:∃ w1,W=[wTable,w1]:=by
      unfold tabP at hp
      split at hp
      ·rename_i w0 w1
       have e:w0=wTable:=by simpa using hw
       exact ⟨w1,by rw [e]⟩
      ·cases hp
     obtain ⟨w1,e⟩:=this
     obtain ⟨a1,a2⟩:=hah _ _ e
     subst e
     rw [a1,a2,if_neg (by decide),if_neg (by decide),if_pos rfl,if_neg (by simp)]
     have e:tabS (namesP c.P) (32::joinB 32 [w1])=some (y,[]):=tabS_at hp
     rw [e]
     rfl
   ·cases h
theorem lineD_skip {c:Cft} {s:List UInt8} (hs:skipB s=true):lineD c s=some c:=by
 unfold skipB at hs
 unfold lineD lineS
 rw [if_pos (by simpa using hs)]
 rfl
theorem linesQ_at:∀ (l:List (List UInt8)) (i:Nat) (c d:Cft),linesP i c l=.inr d→linesQ i c l=.inr d
 | [],_,_,_,h=>h
 | x::l,i,c,d,h=>by
  unfold linesP at h
  rw [linesQ_cons]
  split at h
  ·rename_i hs
   rw [lineD_skip hs]
   exact linesQ_at l (i+1) c d h
  ·rename_i hs
   split at h
   ·cases h
   ·rename_i c' hw
    rw [lineD_at (by simpa using hs) hw]
    exact linesQ_at l (i+1) c' d h
end Txt
end Go.Proofs.YtfmndmhjjbeokaaGreatDoor
namespace Go.Proofs.YtfmndmhjjbeokaaGreatDoor
set_option maxRecDepth 100000
open Go.RowKit Tab Txt
set_option linter.unusedSimpArgs false
set_option linter.unusedVariables false
def rdc (st:Option (List UInt8)):List Value:=[.string (bsOf (st.getD [])),.bool st.isNone]
abbrev RdrS (B g:Nat) (st:Option (List UInt8)) (w:World):Prop:=OwnV 79 2 w B (some ⟨g,0,none⟩) 1 1 (rdc st)
structure Rpo (B g:Nat) (st':Option (List UInt8)) (w w':World):Prop where
 rd:RdrS B g st' w'
 gb:w.grownBy w' (some g)
theorem ogb_refl (w:World) (g:Option Nat):w.grownBy w g:=⟨rfl,rfl,rfl,Nat.le_refl _,fun _ _ _=>rfl⟩
theorem ogb_trans {w w1 w2:World} {g:Option Nat} (h:w.grownBy w1 g) (k:w1.grownBy w2 g):w.grownBy w2 g :=
 ⟨k.os.trans h.os,k.tape.trans h.tape,k.output.trans h.output,Nat.le_trans h.size k.size,fun i hi hne=>(k.block i (Nat.lt_of_lt_of_le hi h.size) hne).trans (h.block i hi hne)⟩
theorem ogb_bel {w w':World} {g:Option Nat} (h:Below w.heap.size w w'):w.grownBy w' g:=⟨h.os,h.tape,h.output,h.size,fun i hi _=>h.block i hi⟩
theorem ogb_below {w w':World} {g B:Nat} (h:w.grownBy w' (some g)) (hg:B≤g) (hB:B≤w.heap.size):Below B w w':=⟨h.os,h.tape,h.output,h.size,fun i hi=>h.block i (by omega) (by intro e;injection e with e;omega)⟩
theorem ogb_set {w:World} {g k:Nat} (v:Value) (hg:g < w.heap.size):w.grownBy (w.setCell ⟨g,k,none⟩ v) (some g):=by
 have h:Below g w (w.setCell ⟨g,k,none⟩ v):=(Below.refl _ _).setCell (p:=⟨g,k,none⟩) (Nat.le_refl _) v
 refine ⟨h.os,h.tape,h.output,h.size,fun i hi hne=>?_⟩
 exact Below.heap_setCell _ _ _ _ (fun e=>hne (by rw [e]))
theorem OwnV.gbo {E s B n c:Nat} {A:Option Addr} {l:List Value} {w w':World} {g:Nat} (h:OwnV E s w B A n c l) (hg:w.grownBy w' (some g)) (hA:obk A≠some g):OwnV E s w' B A n c l :=
 OwnV.keep' h fun k hk=>hg.block k (OwnV.older h hk) fun e=>hA (by rw [hk,e])
section
variable {B g:Nat} {st st':Option (List UInt8)} {w w' w'':World}
theorem RdrS.cells (h:RdrS B g st w):w.cell? ⟨g,0,none⟩=some (.string (bsOf (st.getD [])))∧w.cell? ⟨g,1,none⟩=some (.bool st.isNone)∧w.frozen? ⟨g,0,none⟩=false∧w.frozen? ⟨g,1,none⟩=false∧B≤g∧g < w.heap.size :=
 ⟨World.ownsRow.cellAt h 0 (by omega),World.ownsRow.cellAt h 1 (by omega),World.ownsRow.frozenAt h 0,World.ownsRow.frozenAt h 1,OwnV.obk_ge h (b:=g) rfl⟩
theorem Rpo.trans {s1:Option (List UInt8)} (h:Rpo B g s1 w w') (k:Rpo B g st' w' w''):Rpo B g st' w w'':=⟨k.rd,ogb_trans h.gb k.gb⟩
theorem Rpo.refl (h:RdrS B g st w):Rpo B g st w w:=⟨h,ogb_refl _ _⟩
theorem Rpo.set0 (h:RdrS B g st w) (s r:List UInt8) (hs:st=some s):Rpo B g (some r) w (w.setCell ⟨g,0,none⟩ (.string (bsOf r))):=by
 subst hs
 exact ⟨OwnV.set h 0 _ (by show 0 < 2;omega),ogb_set _ h.cells.2.2.2.2.2⟩
theorem Rpo.fell (h:RdrS B g st w):Rpo B g none w ((w.setCell ⟨g,0,none⟩ (.string ⟨#[]⟩)).setCell ⟨g,1,none⟩ (.bool true)) :=
 ⟨OwnV.set (OwnV.set h 0 _ (by show 0 < 2;omega)) 1 _ (by show 1 < 2;omega),ogb_trans (ogb_set _ h.cells.2.2.2.2.2) (ogb_set _ (by simpa using h.cells.2.2.2.2.2))⟩
end
theorem bs_emp (a:ByteArray):a.toList.isEmpty=decide (a=⟨#[]⟩):=by
 have h:=bs_eq_of (a:=a) (b:=⟨#[]⟩) rfl
 have e:(⟨#[]⟩:ByteArray).toList=[]:=by kernel_rfl
 rw [e] at h
 rw [← h]
 cases a.toList <;> rfl
theorem tend_nil {B g:Nat} {st:Option (List UInt8)} {w:World} (h:RdrS B g st w) (hs:st.getD []=[]):Calls Tryz.prog 40 #[.pointer (some ⟨g,0,none⟩)] w (fun e w'=>e=.returned (.bool true)∧w=w'):=by
 obtain ⟨m0,m1,f0,f1,hB,hg⟩:=h.cells
 have i1:(bsOf []).toList.isEmpty=true:=by rw [bs_emp];exact decide_eq_true rfl
 rw [hs] at m0
 generalize bsOf []=sv at m0 i1
 clear h hs m1
 go_enter Tryz.func40,Tryz.ntmps40
 go_wp2_with fail
 go_ret
 exact ⟨rfl,rfl⟩
theorem tend_cons {B g:Nat} {c:UInt8} {r:List UInt8} {w:World} (h:RdrS B g (some (c::r)) w):Calls Tryz.prog 40 #[.pointer (some ⟨g,0,none⟩)] w (fun e w'=>e=.returned (.bool false)∧w=w'):=by
 obtain ⟨m0,m1,f0,f1,hB,hg⟩:=h.cells
 have i1:(bsOf (c::r)).toList.isEmpty=false:=by rw [bs_emp];exact decide_eq_false fun e=>by have:=congrArg ByteArray.size e;cases this
 rw [Option.getD_some] at m0
 generalize bsOf (c::r)=sv at m0 i1
 clear h m1
 go_enter Tryz.func40,Tryz.ntmps40
 go_wp2_with fail
 go_ret
 exact ⟨rfl,rfl⟩
theorem tfail_any {B g:Nat} {st:Option (List UInt8)} {w:World} (h:RdrS B g st w):Calls Tryz.prog 78 #[.pointer (some ⟨g,0,none⟩)] w (fun e w'=>e=.returned (.tuple #[])∧Rpo B g none w w'):=by
 obtain ⟨m0,m1,f0,f1,hB,hg⟩:=h.cells
 have H:=Lib.hid h
 clear h
 go_enter Tryz.func78,Tryz.ntmps78
 go_wp2_with fail
 go_end0
 exact ⟨rfl,Rpo.fell H.out⟩
theorem tdone_any {B g:Nat} {st:Option (List UInt8)} {w:World} (h:RdrS B g st w):Calls Tryz.prog 44 #[.pointer (some ⟨g,0,none⟩)] w (fun e w'=>e=.returned (.bool (decide (st=some [])))∧w=w'):=by
 obtain ⟨m0,m1,f0,f1,hB,hg⟩:=h.cells
 cases st with
 | none =>
  have HE:=Lib.hid (tend_nil h rfl)
  rw [decide_eq_false (by intro e;cases e)]
  clear h m0
  go_enter Tryz.func44,Tryz.ntmps44
  go_wp2_with (go_at_call 40;refine HE.out.mono ?_;rintro e w1 ⟨rfl,rfl⟩)
  go_ret
  exact ⟨rfl,rfl⟩
 | some s =>
  cases s with
  | nil =>
   have HE:=Lib.hid (tend_nil h rfl)
   rw [decide_eq_true rfl]
   clear h m0
   go_enter Tryz.func44,Tryz.ntmps44
   go_wp2_with (go_at_call 40;refine HE.out.mono ?_;rintro e w1 ⟨rfl,rfl⟩)
   go_ret
   exact ⟨rfl,rfl⟩
  | cons c r =>
   have HE:=Lib.hid (tend_cons h)
   rw [decide_eq_false (by intro e;injection e with e;cases e)]
   clear h m0
   go_enter Tryz.func44,Tryz.ntmps44
   go_wp2_with (go_at_call 40;refine HE.out.mono ?_;rintro e w1 ⟨rfl,rfl⟩)
   go_ret
   exact ⟨rfl,rfl⟩
def tkS (b:UInt8) (st:Option (List UInt8)):Option (List UInt8):=match st.bind (takeB b) with
 | some r=>some r
 | none=>st
set_option maxHeartbeats 400000 in
theorem ttake_any {B g:Nat} {st:Option (List UInt8)} {w:World} (h:RdrS B g st w) (b:UInt8) (z:Int) (hz:z=(b.toNat:Int)):Calls Tryz.prog 42 #[.pointer (some ⟨g,0,none⟩),.int .u8 z] w (fun e w'=>e=.returned (.bool (st.bind (takeB b)).isSome)∧Rpo B g (tkS b st) w w'):=by
 subst hz
 obtain ⟨m0,m1,f0,f1,hB,hg⟩:=h.cells
 have H:=Lib.hid h
 by_cases hs:st.getD []=[]
 ·have HE:=Lib.hid (tend_nil h hs)
  have e1:st.bind (takeB b)=none:=by
   cases st with
   | none=>rfl
   | some s=>rw [show s=[] from hs];rfl
  have e2:tkS b st=st:=by unfold tkS;rw [e1]
  rw [e1,e2]
  clear h m0 e1 e2 hs
  go_enter Tryz.func42,Tryz.ntmps42
  go_wp2_with (go_at_call 40;refine HE.out.mono ?_;rintro e w1 ⟨rfl,rfl⟩)
  go_ret
  exact ⟨rfl,Rpo.refl H.out⟩
 ·obtain ⟨c,r,rfl⟩:∃ c r,st=some (c::r):=by
   cases st with
   | none=>exact absurd rfl hs
   | some s =>
    cases s with
    | nil=>exact absurd rfl hs
    | cons c r=>exact ⟨c,r,rfl⟩
  have HE:=Lib.hid (tend_cons h)
  have hsz:(bsOf (c::r)).size=r.length+1:=rfl
  have hix:∀ W,(Instr.index 9 (.string (bsOf (c::r))) (.int .i64 0)).run Tryz.prog W=.ok (.int .u8 (c.toNat:Int)) W:=sidx (l:=c::r) (i:=0) rfl
  have hbd:(some (c::r)).bind (takeB b)=if c=b then some r else none:=takeB_cons b c r
  unfold tkS
  rw [hbd]
  rw [Option.getD_some] at m0
  clear h hs hbd
  by_cases hc:c=b
  ·have i1:((c.toNat:Int) != (b.toNat:Int))=false:=by rw [hc];simp
   have hex:(bsOf (c::r)).extract 1 (r.length+1)=bsOf r:=bs_from (c::r) 1 _ rfl
   rw [if_pos hc]
   generalize bsOf (c::r)=sv at m0 hsz hix hex
   go_enter Tryz.func42,Tryz.ntmps42
   go_wp2_with (go_at_call 40;refine HE.out.mono ?_;rintro e w1 ⟨rfl,rfl⟩)
   go_ret
   exact ⟨rfl,Rpo.set0 H.out _ r rfl⟩
  ·have i1:((c.toNat:Int) != (b.toNat:Int))=true:=bne_iff_ne.2 fun e=>hc (UInt8.toNat_inj.1 (Int.ofNat.inj e))
   rw [if_neg hc]
   generalize bsOf (c::r)=sv at m0 hsz hix
   go_enter Tryz.func42,Tryz.ntmps42
   go_wp2_with (go_at_call 40;refine HE.out.mono ?_;rintro e w1 ⟨rfl,rfl⟩)
   go_ret
   exact ⟨rfl,Rpo.refl H.out⟩
def nxV (st:Option (List UInt8)):Int:=match st with
 | some (c::_)=>(c.toNat:Int)
 | _=>0
def nxS (st:Option (List UInt8)):Option (List UInt8):=st.map List.tail
set_option maxHeartbeats 400000 in
theorem tnext_any {B g:Nat} {st:Option (List UInt8)} {w:World} (h:RdrS B g st w):Calls Tryz.prog 83 #[.pointer (some ⟨g,0,none⟩)] w (fun e w'=>e=.returned (.int .u8 (nxV st))∧Rpo B g (nxS st) w w'):=by
 obtain ⟨m0,m1,f0,f1,hB,hg⟩:=h.cells
 have H:=Lib.hid h
 by_cases hs:st.getD []=[]
 ·have HE:=Lib.hid (tend_nil h hs)
  have e1:nxV st=0∧nxS st=st:=by
   cases st with
   | none=>exact ⟨rfl,rfl⟩
   | some s=>rw [show s=[] from hs];exact ⟨rfl,rfl⟩
  rw [e1.1,e1.2]
  clear h m0 e1 hs
  go_enter Tryz.func83,Tryz.ntmps83
  go_wp2_with (go_at_call 40;refine HE.out.mono ?_;rintro e w1 ⟨rfl,rfl⟩)
  go_ret
  exact ⟨rfl,Rpo.refl H.out⟩
 ·obtain ⟨c,r,rfl⟩:∃ c r,st=some (c::r):=by
   cases st with
   | none=>exact absurd rfl hs
   | some s =>
    cases s with
    | nil=>exact absurd rfl hs
    | cons c r=>exact ⟨c,r,rfl⟩
  have HE:=Lib.hid (tend_cons h)
  have hsz:(bsOf (c::r)).size=r.length+1:=rfl
  have hix:∀ W,(Instr.index 9 (.string (bsOf (c::r))) (.int .i64 0)).run Tryz.prog W=.ok (.int .u8 (c.toNat:Int)) W:=sidx (l:=c::r) (i:=0) rfl
  have hex:(bsOf (c::r)).extract 1 (r.length+1)=bsOf r:=bs_from (c::r) 1 _ rfl
  rw [Option.getD_some] at m0
  show Calls _ _ _ _ (fun e w'=>e=.returned (.int .u8 (c.toNat:Int))∧Rpo B g (some r) w w')
  clear h hs
  generalize bsOf (c::r)=sv at m0 hsz hix hex
  go_enter Tryz.func83,Tryz.ntmps83
  go_wp2_with (go_at_call 40;refine HE.out.mono ?_;rintro e w1 ⟨rfl,rfl⟩)
  go_ret
  exact ⟨rfl,Rpo.set0 H.out _ r rfl⟩
theorem ttake_yes {B g:Nat} {st:Option (List UInt8)} {w:World} (h:RdrS B g st w) (b:UInt8) (z:Int) (hz:z=(b.toNat:Int)) {r:List UInt8} (hr:st.bind (takeB b)=some r):Calls Tryz.prog 42 #[.pointer (some ⟨g,0,none⟩),.int .u8 z] w (fun e w'=>e=.returned (.bool true)∧Rpo B g (some r) w w'):=by
 have:=ttake_any h b z hz
 have e2:tkS b st=some r:=by unfold tkS;rw [hr]
 rw [hr,e2] at this
 exact this
theorem ttake_no {B g:Nat} {st:Option (List UInt8)} {w:World} (h:RdrS B g st w) (b:UInt8) (z:Int) (hz:z=(b.toNat:Int)) (hr:st.bind (takeB b)=none):Calls Tryz.prog 42 #[.pointer (some ⟨g,0,none⟩),.int .u8 z] w (fun e w'=>e=.returned (.bool false)∧Rpo B g st w w'):=by
 have:=ttake_any h b z hz
 have e2:tkS b st=st:=by unfold tkS;rw [hr]
 rw [hr,e2] at this
 exact this
theorem tmust_any {B g:Nat} {st:Option (List UInt8)} {w:World} (h:RdrS B g st w) (b:UInt8) (z:Int) (hz:z=(b.toNat:Int)):Calls Tryz.prog 75 #[.pointer (some ⟨g,0,none⟩),.int .u8 z] w (fun e w'=>e=.returned (.tuple #[])∧Rpo B g (st.bind (takeB b)) w w'):=by
 cases hq:st.bind (takeB b) with
 | some r =>
  have HT:=Lib.hid (ttake_yes h b z hz hq)
  clear h hq hz
  go_enter Tryz.func75,Tryz.ntmps75
  go_wp2_with fail
  refine HT.out.mono ?_
  rintro e w1 ⟨rfl,h1⟩
  have H1:=Lib.hid h1
  clear h1
  go_wp2_with fail
  go_end0
  exact ⟨rfl,H1.out⟩
 | none =>
  have HT:=Lib.hid (ttake_no h b z hz hq)
  clear h hq hz
  go_enter Tryz.func75,Tryz.ntmps75
  go_wp2_with fail
  refine HT.out.mono ?_
  rintro e w1 ⟨rfl,h1⟩
  have HF:=Lib.hid (tfail_any h1.rd)
  have H1:=Lib.hid h1
  clear h1
  go_wp2_with fail
  refine HF.out.mono ?_
  rintro e w2 ⟨rfl,h2⟩
  have H2:=Lib.hid (H1.out.trans h2)
  clear h2
  go_wp2_with fail
  go_end0
  exact ⟨rfl,H2.out⟩
end Go.Proofs.YtfmndmhjjbeokaaGreatDoor
namespace Go.Proofs.YtfmndmhjjbeokaaGreatDoor
set_option maxRecDepth 100000
open Go.RowKit Tab Txt
set_option linter.unusedSimpArgs false
set_option linter.unusedVariables false
theorem Rpo.map0 {B g:Nat} {st:Option (List UInt8)} {w:World} (h:RdrS B g st w) (f:List UInt8→List UInt8) (hf:f []=[]):Rpo B g (st.map f) w (w.setCell ⟨g,0,none⟩ (.string (bsOf (f (st.getD []))))):=by
 refine ⟨?_,ogb_set _ h.cells.2.2.2.2.2⟩
 have e:=OwnV.set h 0 (.string (bsOf (f (st.getD [])))) (by show 0 < 2;omega)
 cases st with
 | none =>
  show OwnV _ _ _ _ _ _ _ [.string (bsOf []),.bool true]
  rw [show ((none:Option (List UInt8)).getD [])=[] from rfl,hf] at e ⊢
  exact e
 | some s=>exact e
set_option maxHeartbeats 1000000 in
theorem tupto_any {B g:Nat} {st:Option (List UInt8)} {w:World} (h:RdrS B g st w) (hl:(st.getD []).length≤140737488351232) (b:UInt8) (z:Int) (hz:z=(b.toNat:Int)) :
  Calls Tryz.prog 41 #[.pointer (some ⟨g,0,none⟩),.int .u8 z] w (fun e w'=>e=.returned (.string (bsOf (aheadT (isB b) (st.getD []))))∧Rpo B g (st.map (behindT (isB b))) w w'):=by
 obtain ⟨m0,m1,f0,f1,hB,hg⟩:=h.cells
 have HM:=Lib.hid (Rpo.map0 h (behindT (isB b)) rfl)
 subst hz
 generalize st.map (behindT (isB b))=ST at HM ⊢
 generalize st.getD []=s at m0 hl HM ⊢
 have HXS:=Lib.hid fun i c (h:s[i]? = some c)=>sidx h
 have HUP:=Lib.hid (bs_upto s)
 obtain ⟨n,hn⟩:∃ n,n=s.length:=⟨_,rfl⟩
 have HFR:=Lib.hid fun i=>bs_from s i n hn.symm
 have hsz:(bsOf s).size=n:=by rw [hn];rfl
 have HN:=Lib.hid hn
 have HSP:=Lib.hid fun i (h1:∀ j,j < i→∀ d,s[j]? = some d→isB b d=false) (h2:∀ c,s[i]? = some c→isB b c=true)=>ahead_split (p:=isB b) h1 h2
 rw [← hn] at hl
 generalize aheadT (isB b) s=R1 at HSP ⊢
 generalize behindT (isB b) s=R2 at HSP HM ⊢
 clear h hn m1 f1
 generalize hsv:bsOf s=sv at m0 HXS HUP HFR hsz
 clear hsv
 obtain ⟨b1,hb1⟩:∃ b1,b1=b.toNat:=⟨_,rfl⟩
 rw [← hb1]
 have HB1:=Lib.hid hb1
 clear hb1
 go_enter Tryz.func41,Tryz.ntmps41
 go_wp2_with fail
 go_loopw [5] (fun v wr=>∃ i:Nat,i≤n∧v=.int .i64 i∧(∀ j,j < i→∀ d,s[j]? = some d→isB b d=false)∧w=wr) (fun v _=>n - (intOf v).toNat)
 case atStart=>exact ⟨0,by omega,rfl,fun j hj=>by omega,rfl⟩
 case round =>
  obtain ⟨i,hi,rfl,hok,rfl⟩:=hrel
  have HOK:=Lib.hid hok
  clear hok
  have hup:=HUP.out i
  have hfr:=HFR.out i
  by_cases hlt:i < n
  ·have hlti:(i:Int) < (n:Int):=by omega
   obtain ⟨c,hc⟩:∃ c,s[i]? = some c:=⟨_,List.getElem?_eq_getElem (by rw [← HN.out];exact hlt)⟩
   obtain ⟨c1,hc1⟩:∃ c1,c1=c.toNat:=⟨_,rfl⟩
   have hix:∀ W,(Instr.index 9 (.string sv) (.int .i64 (i:Int))).run Tryz.prog W=.ok (.int .u8 (c1:Int)) W:=by rw [hc1];exact HXS.out i c hc
   by_cases hcb:c=b
   ·have i1:((c1:Int) != (b1:Int))=false:=by rw [hc1,HB1.out,hcb];simp
    have hsp:=HSP.out i HOK.out (fun c' hc'=>by rw [hc] at hc';injection hc' with e;rw [← e,hcb];exact decide_eq_true rfl)
    have S1:=Lib.hid hsp.1
    have S2:=Lib.hid hsp.2
    have Q1:Hid (bsOf R1=bsOf (s.take i)):=Lib.hid (by rw [S1.out])
    have Q2:Hid (bsOf R2=bsOf (s.drop i)):=Lib.hid (by rw [S2.out])
    clear hsp HSP HOK hcb hc hc1 HXS HUP HFR S1 S2
    generalize bsOf (s.take i)=o1 at hup Q1
    generalize bsOf (s.drop i)=o2 at hfr Q2
    go_wp2_with fail
    go_ret
    exact ⟨by rw [Q1.out];rfl,by have:=HM.out;rw [Q2.out] at this;exact this⟩
   ·have i1:((c1:Int) != (b1:Int))=true:=bne_iff_ne.2 fun e=>hcb (UInt8.toNat_inj.1 (by rw [← hc1,← HB1.out];exact Int.ofNat.inj e))
    have HNX:Hid (∀ j,j < i+1→∀ d,s[j]? = some d→isB b d=false):=Lib.hid fun j hj d hd=>by
     rcases Nat.lt_or_ge j i with h5 | h5
     ·exact HOK.out j h5 d hd
     ·obtain rfl:j=i:=by omega
      rw [hc] at hd
      injection hd with e
      rw [← e]
      exact decide_eq_false hcb
    clear HSP HOK hcb hc hc1 HXS HUP HFR hup hfr
    go_wp2_with fail
    go_roundw
    case rel=>exact ⟨i+1,by omega,by go_num,HNX.out,by first | rfl | trivial⟩
    case measure=>simp [intOf];omega
  ·have hlti:¬ (i:Int) < (n:Int):=by omega
   have hsp:=HSP.out i HOK.out (fun c' hc'=>by rw [List.getElem?_eq_none (by rw [← HN.out];omega)] at hc';cases hc')
   have S1:=Lib.hid hsp.1
   have S2:=Lib.hid hsp.2
   have Q1:Hid (bsOf R1=bsOf (s.take i)):=Lib.hid (by rw [S1.out])
   have Q2:Hid (bsOf R2=bsOf (s.drop i)):=Lib.hid (by rw [S2.out])
   clear hsp HSP HOK HXS HUP HFR S1 S2
   generalize bsOf (s.take i)=o1 at hup Q1
   generalize bsOf (s.drop i)=o2 at hfr Q2
   go_wp2_with fail
   go_ret
   exact ⟨by rw [Q1.out];rfl,by have:=HM.out;rw [Q2.out] at this;exact this⟩
theorem takeB_noU {b:UInt8} {s:List UInt8} (h:¬ ∃ r,s=b::r):takeB b s=none:=by
 cases s with
 | nil=>rfl
 | cons c r=>exact takeB_ne (fun e=>h ⟨r,by rw [e]⟩) r
def lenS (w:World) (g:Nat):Nat:=match w.cell? ⟨g,0,none⟩ with
 | some (.string s)=>s.size
 | _=>0
theorem lenS_is {B g:Nat} {st:Option (List UInt8)} {w:World} (h:RdrS B g st w):lenS w g=(st.getD []).length:=by
 unfold lenS
 rw [h.cells.1]
 rfl
theorem numZ_some {m n:Nat} {st:Option (List UInt8)} {r:List UInt8} (h:st.bind (numS m)=some (n,r)):Got (st.bind (numZ m)) (n:Int) (some r):=by
 have e:st.bind (numZ m)=some ((n:Int),r):=by
  cases st with
  | none=>cases h
  | some s=>show (numS m s).map _=_;rw [show numS m s=some (n,r) from h];rfl
 exact ⟨by rw [e];rfl,fun x hx=>by rw [e] at hx;injection hx with hx;rw [← hx]⟩
theorem numZ_no {m:Nat} {st:Option (List UInt8)} (h:st.bind (numS m)=none) (v:Int):Got (st.bind (numZ m)) v none:=by
 have e:st.bind (numZ m)=none:=by
  cases st with
  | none=>rfl
  | some s=>show (numS m s).map _=_;rw [show numS m s=none from h];rfl
 exact ⟨by rw [e];rfl,fun x hx=>by rw [e] at hx;cases hx⟩
def NumX (B g:Nat) (R:Option (Int×List UInt8)) (w:World) (e:Ending) (w':World):Prop:=∃ (v:Int) (st':Option (List UInt8)),e=.returned (.int .i64 v)∧0≤v∧v≤10995116277759∧Got R v st'∧Rpo B g st' w w'
def NumI (m:Nat) (R:Option (Nat×List UInt8)) (n:Nat) (st:Option (List UInt8)):Prop:=match st with
 | none=>R=none
 | some s=>R=numL m n s∧n≤m
set_option maxHeartbeats 2000000 in
theorem tnumber_any {B g:Nat} {st:Option (List UInt8)} {w:World} (h:RdrS B g st w) (m:Nat) (hm:m≤1099511627775) :
  Calls Tryz.prog 49 #[.pointer (some ⟨g,0,none⟩),.int .i64 (m:Int)] w (NumX B g (st.bind (numZ m)) w):=by
 by_cases hz:∃ r,st=some (48::r)
 ·obtain ⟨r,rfl⟩:=hz
  have HG:=Lib.hid (numZ_some (m:=m) (n:=0) (st:=some (48::r)) (r:=r) rfl)
  have e1:(some ((48:UInt8)::r)).bind (takeB 48)=some r:=takeB_self 48 r
  have HT:=Lib.hid (ttake_yes h 48 48 rfl e1)
  clear h e1
  go_enter Tryz.func49,Tryz.ntmps49
  go_wp2_with fail
  refine HT.out.mono ?_
  rintro e w1 ⟨rfl,h1⟩
  have H1:=Lib.hid h1
  clear h1 HT
  go_wp2_with fail
  go_ret
  exact ⟨0,some r,rfl,by decide,by decide,HG.out,H1.out⟩
 ·have e1:st.bind (takeB 48)=none:=by
   cases st with
   | none=>rfl
   | some s=>exact takeB_noU (b:=48) fun ⟨r,e⟩=>hz ⟨r,by rw [e]⟩
  have HT:=Lib.hid (ttake_no h 48 48 rfl e1)
  obtain ⟨R,hR⟩:∃ R,R=st.bind (numS m):=⟨_,rfl⟩
  have hI:NumI m R 0 st:=by
   unfold NumI
   cases st with
   | none=>exact hR
   | some s =>
    refine ⟨?_,Nat.zero_le _⟩
    rw [hR]
    cases s with
    | nil=>rfl
    | cons c r =>
     show numS m (c::r)=_
     rw [numS_cons,if_neg (fun e=>hz ⟨r,by rw [e]⟩)]
  have HNO:=Lib.hid fun (e:R=none) v=>numZ_no (m:=m) (st:=st) (by rw [← hR];exact e) v
  have HYE:=Lib.hid fun n r (e:R=some (n,r))=>numZ_some (m:=m) (n:=n) (r:=r) (st:=st) (by rw [← hR];exact e)
  have HI:=Lib.hid hI
  have H0:=Lib.hid h
  clear h e1 hz hR hI
  generalize st.bind (numZ m)=RZ at HNO HYE ⊢
  go_enter Tryz.func49,Tryz.ntmps49
  go_wp2_with fail
  refine HT.out.mono ?_
  rintro e w1 ⟨rfl,h1⟩
  have H1:=Lib.hid h1
  clear h1 HT
  go_wp2_with fail
  go_loopw [5] (fun v wr=>∃ (n:Nat) (sn:Option (List UInt8)),v=.int .i64 n∧n≤m*10+9∧NumI m R n sn∧Rpo B g sn w wr) (fun _ wr=>lenS wr g)
  case atStart=>exact ⟨0,st,rfl,by omega,HI.out,H1.out⟩
  case round =>
   obtain ⟨n,sn,rfl,hn,hi,hr⟩:=hrel
   have HS:=Lib.hid hr
   have HI2:=Lib.hid hi
   have HN:=Lib.hid hn
   have hcells:=hr.rd.cells
   clear H1 HI hr hi
   obtain ⟨m0,m1,f0,f1,hB,hg⟩:=hcells
   clear m1 f1
   by_cases hs:sn.getD []=[]
   ·have HE:=Lib.hid (tend_nil HS.out.rd hs)
    by_cases hn0:n=0
    ·subst hn0
     have hRn:R=none:=by
      have:=HI2.out
      cases sn with
      | none=>exact this
      | some s=>rw [show s=[] from hs] at this;exact this.1
     have HG:=Lib.hid (HNO.out hRn 0)
     have HF:=Lib.hid (tfail_any HS.out.rd)
     clear HNO HYE hRn hs m0
     go_wp2_with (go_at_call 40;refine HE.out.mono ?_;rintro e w2 ⟨rfl,rfl⟩)
     refine HF.out.mono ?_
     rintro e w2 ⟨rfl,h2⟩
     have H2:=Lib.hid (HS.out.trans h2)
     clear h2
     go_wp2_with fail
     go_ret
     exact ⟨0,none,rfl,by decide,by decide,HG.out,H2.out⟩
    ·have HG:Hid (Got RZ (n:Int) sn):=Lib.hid (by
      have:=HI2.out
      cases sn with
      | none=>exact HNO.out this _
      | some s =>
       rw [show s=[] from hs] at this ⊢
       exact HYE.out n [] (by rw [this.1];unfold numL;rw [if_neg hn0]))
     have i1:((n:Int) == 0)=false:=by rw [beq_eq_false_iff_ne];omega
     clear HNO HYE hs m0
     go_wp2_with (go_at_call 40;refine HE.out.mono ?_;rintro e w2 ⟨rfl,rfl⟩)
     go_ret
     exact ⟨n,sn,rfl,by omega,by have:=HN.out;omega,HG.out,HS.out⟩
   ·obtain ⟨c,r,rfl⟩:∃ c r,sn=some (c::r):=by
     cases sn with
     | none=>exact absurd rfl hs
     | some s =>
      cases s with
      | nil=>exact absurd rfl hs
      | cons c r=>exact ⟨c,r,rfl⟩
    have HE:=Lib.hid (tend_cons HS.out.rd)
    have hix:∀ W,(Instr.index 9 (.string (bsOf (c::r))) (.int .i64 0)).run Tryz.prog W=.ok (.int .u8 (c.toNat:Int)) W:=sidx (l:=c::r) (i:=0) rfl
    rw [Option.getD_some] at m0
    have hI2:R=numL m n (c::r)∧n≤m:=HI2.out
    obtain ⟨hR1,hnm⟩:=hI2
    rw [numL_cons] at hR1
    have HIS:Hid (isD c=(decide (48≤c.toNat) && decide (c.toNat≤57))):=Lib.hid rfl
    have HNXT:=Lib.hid (tnext_any HS.out.rd)
    have HLEN:Hid (lenS wr g=r.length+1):=Lib.hid (lenS_is HS.out.rd)
    obtain ⟨b,hb⟩:∃ b,b=c.toNat:=⟨_,rfl⟩
    have hnv:nxV (some (c::r))=(b:Int):=by rw [hb];rfl
    have hns:nxS (some (c::r))=some r:=rfl
    rw [hnv,hns] at HNXT
    rw [← hb] at hix hR1 HIS
    clear hb hnv hns HI2
    generalize bsOf (c::r)=sv at m0 hix
    by_cases hd:48≤b∧b≤57
    ·have i1:(48:Int)≤(b:Int):=by omega
     have i2:(b:Int)≤57:=by omega
     have hd2:isD c=true:=by rw [HIS.out,decide_eq_true hd.1,decide_eq_true hd.2];rfl
     rw [if_pos hd2] at hR1
     obtain ⟨k,hk⟩:∃ k,k=b - 48:=⟨_,rfl⟩
     obtain ⟨p,hp⟩:∃ p,p=n*10:=⟨_,rfl⟩
     obtain ⟨a2,ha2⟩:∃ a2,a2=p+k:=⟨_,rfl⟩
     rw [← hp,← hk,← ha2] at hR1
     have e1:(b:Int) - 48=(k:Int):=by omega
     have e2:IntKind.u8.wrap (k:Int)=(k:Int):=by rw [IntKind.wrap_u8];omega
     have e3:(n:Int)*10=(p:Int):=by omega
     have e4:IntKind.i64.wrap (p:Int)=(p:Int):=by rw [IntKind.wrap_i64];omega
     have e5:(p:Int)+(k:Int)=(a2:Int):=by omega
     have e6:IntKind.i64.wrap (a2:Int)=(a2:Int):=by rw [IntKind.wrap_i64];omega
     have e7:IntKind.i64.wrap (k:Int)=(k:Int):=by rw [IntKind.wrap_i64];omega
     have HA:Hid (a2≤m*10+9):=Lib.hid (by omega)
     clear hd2 HIS hd hk hp ha2
     by_cases hg2:m < a2
     ·have i3:(m:Int) < (a2:Int):=by omega
      rw [if_pos hg2] at hR1
      have HRR:=Lib.hid hR1
      clear hR1 hg2 hs HNO HYE
      go_wp2_with (first | (go_at_call 40;refine HE.out.mono ?_;rintro e w2 ⟨rfl,rfl⟩) | (go_at_call 83;refine HNXT.out.mono ?_;rintro e w2 ⟨rfl,h2⟩))
      have H2:=Lib.hid (HS.out.trans h2)
      have HF:=Lib.hid (tfail_any h2.rd)
      clear h2
      go_wp2_with fail
      refine HF.out.mono ?_
      rintro e w3 ⟨rfl,h3⟩
      have H3:=Lib.hid (H2.out.trans h3)
      clear h3
      go_wp2_with fail
      go_roundw
      case rel=>exact ⟨a2,none,by go_num,HA.out,HRR.out,H3.out⟩
      case measure=>rw [HLEN.out,lenS_is H3.out.rd];show 0 < _;omega
     ·have i3:¬ (m:Int) < (a2:Int):=by omega
      rw [if_neg hg2] at hR1
      have HRR:Hid (R=numL m a2 r∧a2≤m):=Lib.hid ⟨hR1,by omega⟩
      clear hR1 hg2 hs HNO HYE
      go_wp2_with (first | (go_at_call 40;refine HE.out.mono ?_;rintro e w2 ⟨rfl,rfl⟩) | (go_at_call 83;refine HNXT.out.mono ?_;rintro e w2 ⟨rfl,h2⟩))
      have H2:=Lib.hid (HS.out.trans h2)
      clear h2
      go_wp2_with fail
      go_roundw
      case rel=>exact ⟨a2,some r,by go_num,HA.out,HRR.out,H2.out⟩
      case measure=>rw [HLEN.out,lenS_is H2.out.rd];show r.length < _;omega
    ·have hd2:isD c=false:=by
      rw [HIS.out,Bool.and_eq_false_iff,decide_eq_false_iff_not,decide_eq_false_iff_not]
      omega
     rw [if_neg (by rw [hd2];decide)] at hR1
     by_cases hn0:n=0
     ·subst hn0
      rw [if_pos rfl] at hR1
      have HG:=Lib.hid (HNO.out hR1 0)
      have HF:=Lib.hid (tfail_any HS.out.rd)
      clear HNO HYE hR1 hs HIS hd2
      rcases (by omega:b < 48∨48≤b∧57 < b) with h | ⟨h,h2⟩
      ·have i1:¬ (48:Int)≤(b:Int):=by omega
       clear h hd
       go_wp2_with (go_at_call 40;refine HE.out.mono ?_;rintro e w2 ⟨rfl,rfl⟩)
       refine HF.out.mono ?_
       rintro e w2 ⟨rfl,h2⟩
       have H2:=Lib.hid (HS.out.trans h2)
       clear h2
       go_wp2_with fail
       go_ret
       exact ⟨0,none,rfl,by decide,by decide,HG.out,H2.out⟩
      ·have i1:(48:Int)≤(b:Int):=by omega
       have i2:¬ (b:Int)≤57:=by omega
       clear h h2 hd
       go_wp2_with (go_at_call 40;refine HE.out.mono ?_;rintro e w2 ⟨rfl,rfl⟩)
       refine HF.out.mono ?_
       rintro e w2 ⟨rfl,h2⟩
       have H2:=Lib.hid (HS.out.trans h2)
       clear h2
       go_wp2_with fail
       go_ret
       exact ⟨0,none,rfl,by decide,by decide,HG.out,H2.out⟩
     ·rw [if_neg hn0] at hR1
      have HG:=Lib.hid (HYE.out _ _ hR1)
      have i0:((n:Int) == 0)=false:=by rw [beq_eq_false_iff_ne];omega
      clear HNO HYE hR1 hs HIS hd2
      rcases (by omega:b < 48∨48≤b∧57 < b) with h | ⟨h,h2⟩
      ·have i1:¬ (48:Int)≤(b:Int):=by omega
       clear h hd
       go_wp2_with (go_at_call 40;refine HE.out.mono ?_;rintro e w2 ⟨rfl,rfl⟩)
       go_ret
       exact ⟨n,some (c::r),rfl,by omega,by have:=HN.out;omega,HG.out,HS.out⟩
      ·have i1:(48:Int)≤(b:Int):=by omega
       have i2:¬ (b:Int)≤57:=by omega
       clear h h2 hd
       go_wp2_with (go_at_call 40;refine HE.out.mono ?_;rintro e w2 ⟨rfl,rfl⟩)
       go_ret
       exact ⟨n,some (c::r),rfl,by omega,by have:=HN.out;omega,HG.out,HS.out⟩
end Go.Proofs.YtfmndmhjjbeokaaGreatDoor
