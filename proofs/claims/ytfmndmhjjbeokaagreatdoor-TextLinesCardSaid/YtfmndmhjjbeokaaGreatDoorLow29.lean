import Derived.Test.YtfmndmhjjbeokaaGreatDoorLow28
import Derived.Test.YtfmndmhjjbeokaaGreatDoorLow8
import Derived.Test.YtfmndmhjjbeokaaGreatDoorLow25
namespace Go.Proofs.YtfmndmhjjbeokaaGreatDoor
open Go.RowKit Tab
set_option linter.unusedSimpArgs false
set_option linter.unusedVariables false
theorem firstF_nonzero {f:Nat→Int} {n i:Nat} (h:firstF f n=some i):f i≠0:=by
 have:=List.find?_some h
 simpa using this
theorem firstF_zero {f:Nat→Int} {n:Nat} (h:firstF f n=none):∀ j,j < n→f j=0:=fun j hj=>by
 have:=List.find?_eq_none.1 h j (List.mem_range.2 hj)
 simpa using this
theorem hv5_same {x y:Pq} (h:SameP x y) (j:Nat):hv5 x.1 j=hv5 y.1 j:=by
 obtain ⟨_,_,_,_,_,⟨h0,h1,h2,h3,h4⟩,_⟩:=h
 unfold hv5
 rw [h0,h1,h2,h3,h4]
theorem partF_same {x y:Pq} (h:SameP x y) (hx:x.2.length=x.1.pn) (hy:y.2.length=y.1.pn):partF x.1 x.2=partF y.1 y.2:=by
 have e:x.1.pn=y.1.pn:=by rw [← hx,← hy,h.2.2.2.2.2.2]
 have e2:(fun j=>hlF (hv5 x.1 j))=fun j=>hlF (hv5 y.1 j):=funext fun j=>by rw [hv5_same h j]
 unfold partF
 rw [e,e2,h.2.2.2.2.2.2,h.2.1,h.2.2.1]
section
variable {P P':List Pq}
theorem name_same (hl:P.length=P'.length) (hs:∀ (i:Nat) (x y:Pq),P[i]? = some x→P'[i]? = some y→SameP x y):P.map (fun z=>z.1.name)=P'.map (fun z=>z.1.name):=by
 apply List.ext_getElem?
 intro i
 rw [List.getElem?_map,List.getElem?_map]
 rcases Nat.lt_or_ge i P.length with h | h
 ·rw [List.getElem?_eq_getElem h,List.getElem?_eq_getElem (by omega:i < P'.length)]
  exact congrArg some (hs i _ _ (List.getElem?_eq_getElem h) (List.getElem?_eq_getElem (by omega:i < P'.length))).1
 ·rw [List.getElem?_eq_none h,List.getElem?_eq_none (by omega)]
theorem any_name (l:List Pq) (s:ByteArray):l.any (fun y=>decide (y.1.name=s))=(l.map (fun z=>z.1.name)).any (fun m=>decide (m=s)):=by
 rw [List.any_map]
 rfl
theorem ptE_same (hl:P.length=P'.length) (hs:∀ (i:Nat) (x y:Pq),P[i]? = some x→P'[i]? = some y→SameP x y) (h1:∀ x∈P,x.2.length=x.1.pn) (h2:∀ x∈P',x.2.length=x.1.pn):ptE P=ptE P':=by
 funext i
 unfold ptE
 rcases Nat.lt_or_ge i P.length with h | h
 ·have e1:=List.getElem?_eq_getElem h
  have e2:=List.getElem?_eq_getElem (by omega:i < P'.length)
  have hsm:=hs i _ _ e1 e2
  rw [e1,e2]
  show ptW P i _=ptW P' i _
  unfold ptW
  rw [any_name,any_name,List.map_take,List.map_take,name_same hl hs,hsm.1,partF_same hsm (h1 _ (List.getElem_mem h)) (h2 _ (List.getElem_mem _))]
 ·rw [List.getElem?_eq_none h,List.getElem?_eq_none (by omega)]
theorem shortF_same (W:List Int):∀ (l l':List PtV) (i:Nat),l.map (fun x=>(x.bud,x.per))=l'.map (fun x=>(x.bud,x.per))→shortF W i l=shortF W i l'
 | [],[],_,_=>rfl
 | [],_::_,_,h=>by simp at h
 | _::_,[],_,h=>by simp at h
 | x::l,y::l',i,h=>by
  simp only [List.map_cons,List.cons.injEq,Prod.mk.injEq] at h
  obtain ⟨⟨hb,hp⟩,h⟩:=h
  simp only [shortF,ptShort,hb,hp,shortF_same W l l' (i+1) h]
theorem bp_same (hl:P.length=P'.length) (hs:∀ (i:Nat) (x y:Pq),P[i]? = some x→P'[i]? = some y→SameP x y):(P.map Prod.fst).map (fun x=>(x.bud,x.per))=(P'.map Prod.fst).map (fun x=>(x.bud,x.per)):=by
 apply List.ext_getElem?
 intro i
 rw [List.getElem?_map,List.getElem?_map,List.getElem?_map,List.getElem?_map]
 rcases Nat.lt_or_ge i P.length with h | h
 ·have hsm:=hs i _ _ (List.getElem?_eq_getElem h) (List.getElem?_eq_getElem (by omega:i < P'.length))
  rw [List.getElem?_eq_getElem h,List.getElem?_eq_getElem (by omega:i < P'.length)]
  show some (_,_)=some (_,_)
  rw [hsm.2.1,hsm.2.2.1]
 ·rw [List.getElem?_eq_none h,List.getElem?_eq_none (by omega)]
theorem tbW_same (C:List ChV) (hl:P.length=P'.length) (hs:∀ (i:Nat) (x y:Pq),P[i]? = some x→P'[i]? = some y→SameP x y) (l:List Nd):tbW P C l=tbW P' C l:=by
 unfold tbW holdsF
 rw [hl,shortF_same _ _ _ 0 (bp_same hl hs)]
end
theorem CfR.lens {w:World} {x:Cf} (h:CfR w x):∀ y∈x.P,y.2.length=y.1.pn:=fun y hy=>(h.pt y hy).1.procs.len
theorem whF_same {x y:Cf} (h:SamX x y) (hx:∀ z∈x.P,z.2.length=z.1.pn) (hy:∀ z∈y.P,z.2.length=z.1.pn):whF x=whF y:=by
 obtain ⟨⟨h1,h2,h3⟩,h4,h5⟩:=h
 have e1:=ptE_same h1 h2 hx hy
 have e2:tbE x.P x.C x.T=tbE y.P y.C y.T:=by
  funext i
  unfold tbE
  rcases Nat.lt_or_ge i x.T.length with h | h
  ·rw [List.getElem?_eq_getElem h,List.getElem?_eq_getElem (by omega:i < y.T.length)]
   show tbW _ _ _=tbW _ _ _
   rw [sameN_eq (h5 i _ _ (List.getElem?_eq_getElem h) (List.getElem?_eq_getElem (by omega:i < y.T.length))),tbW_same x.C h1 h2,h3]
  ·rw [List.getElem?_eq_none h,List.getElem?_eq_none (by omega)]
 have e3:chE x.C x.P.length=chE y.C y.P.length:=by rw [h1,h3]
 have e4:sizesB x.P x.C x.T↔sizesB y.P y.C y.T:=by unfold sizesB;rw [h1,h3,h4]
 unfold whF whereF
 by_cases hz:sizesB x.P x.C x.T
 ·rw [if_pos hz,if_pos (e4.1 hz),e1,e2,e3,h1,h3,h4]
 ·rw [if_neg hz,if_neg (fun k=>hz (e4.2 k))]
structure RiX (x:Cf):Prop where
 sz:sizesB x.P x.C x.T
 pt:∀ j,j < x.P.length→ptE x.P j=0
 ch:∀ j,j < x.C.length→chE x.C x.P.length j=0
 tb:∀ t∈x.T,tbW x.P x.C t.l=0
theorem RiX.ok {x:Cf} (h:RiX x):whF x=(0,-1) :=
 whereF_ok h.sz h.pt h.ch fun j hj=>by
  rw [tbE_at (List.getElem?_eq_getElem hj)]
  exact h.tb _ (List.getElem_mem hj)
theorem RiX.of {x:Cf} (h:(whF x).1=0):RiX x:=by
 unfold whF whereF at h
 split at h
 ·rename_i hs
  split at h
  ·rename_i i hi
   exact absurd h (firstF_nonzero hi)
  ·rename_i hp
   split at h
   ·rename_i i hi
    exact absurd h (firstF_nonzero hi)
   ·rename_i hc
    split at h
    ·rename_i i hi
     exact absurd h (firstF_nonzero hi)
    ·rename_i ht
     refine ⟨hs,firstF_zero hp,firstF_zero hc,fun t hm=>?_⟩
     obtain ⟨i,hi⟩:=List.getElem?_of_mem hm
     rw [← tbE_at hi]
     exact firstF_zero ht i (List.getElem?_eq_some_iff.1 hi).1
 ·exact absurd h (by decide)
end Go.Proofs.YtfmndmhjjbeokaaGreatDoor
namespace Go.Proofs.YtfmndmhjjbeokaaGreatDoor
namespace Txt
open Tab
set_option linter.unusedSimpArgs false
set_option linter.unusedVariables false
def lim32:Nat:=4294967295
def findF:List (List UInt8)→List UInt8→Int
 | [],_=>-1
 | x::l,s=>if x=s then 0 else if findF l s < 0 then -1 else findF l s+1
def healP:List UInt8→Option (Int×Int×Int×Int×Int)
 | [a,b,c,d,e]=>if (decide (48≤a.toNat∧a.toNat≤50) && decide (48≤b.toNat∧b.toNat≤50)) && (decide (48≤c.toNat∧c.toNat≤50) && (decide (48≤d.toNat∧d.toNat≤50) && decide (48≤e.toNat∧e.toNat≤50))) then
   some ((a.toNat:Int) - 48,(b.toNat:Int) - 48,(c.toNat:Int) - 48,(d.toNat:Int) - 48,(e.toNat:Int) - 48) else none
 | _=>none
def procP (x:List UInt8):Option (Int×Int):=match splitF 58 x with
 | [e,q]=>if (valF lim40 e).2 && (valF lim40 q).2 then some (((valF lim40 e).1:Int),((valF lim40 q).1:Int)) else none
 | _=>none
def procsP:List (List UInt8)→Option (List (Int×Int))
 | []=>some []
 | x::l=>match procP x with
  | none=>none
  | some q=>(procsP l).map (q::·)
def flagP (w:List UInt8):Option (Bool×Bool):=if w=[45] then some (false,false) else if w=[115] then some (true,false) else if w=[116] then some (false,true) else if w=[115,116] then some (true,true) else none
def partP:List (List UInt8)→Option Pq
 | [_,w1,w2,w3,w4,w5,w6]=>if (valF lim40 w2).2 && ((valF lim40 w3).2 && nameF (bsOf w1)) then
   match flagP w4,healP w5,procsP (splitF 44 w6) with
   | some f,some h,some L=>some (⟨bsOf w1,((valF lim40 w2).1:Int),((valF lim40 w3).1:Int),f.1,f.2,none,L.length,L.length,h.1,h.2.1,h.2.2.1,h.2.2.2.1,h.2.2.2.2⟩,L)
   | _,_,_=>none
  else none
 | _=>none
def chanP (names:List (List UInt8)):List (List UInt8)→Option ChV
 | [_,w1,w2,w3,w4,w5]=>if decide (0≤findF names w1) && (decide (0≤findF names w2) && ((valF lim32 w4).2 && (valF lim40 w5).2)) then
   match w3 with
   | []=>none
   | k::r=>if k=113 then (if (valF lim40 r).2 then some ⟨findF names w1,findF names w2,true,((valF lim40 r).1:Int),((valF lim32 w4).1:Int),((valF lim40 w5).1:Int)⟩ else none)
    else if k=115∧r=[] then some ⟨findF names w1,findF names w2,false,0,((valF lim32 w4).1:Int),((valF lim40 w5).1:Int)⟩ else none
  else none
 | _=>none
def ndT0 (l:List Nd):NdT:=⟨none,l.length,l.length,l⟩
def tabP (names:List (List UInt8)):List (List UInt8)→Option NdT
 | [_,w1]=>(tableR (findF names) w1).map ndT0
 | _=>none
structure Cft where
 P:List Pq
 C:List ChV
 T:List NdT
def namesP (P:List Pq):List (List UInt8):=P.map fun p=>toL p.1.name
def wPart:List UInt8:=[112,97,114,116]
def wChan:List UInt8:=[99,104,97,110]
def wTable:List UInt8:=[116,97,98,108,101]
def wordsP (c:Cft) (w:List (List UInt8)):Option Cft :=
 if w.head? = some wPart then (partP w).map fun p=>⟨c.P++[p],c.C,c.T⟩
 else if w.head? = some wChan then (chanP (namesP c.P) w).map fun x=>⟨c.P,c.C++[x],c.T⟩
 else if w.head? = some wTable then (tabP (namesP c.P) w).map fun t=>⟨c.P,c.C,c.T++[t]⟩
 else none
def skipB (x:List UInt8):Bool:=decide (x=[]) || decide (x.head? = some 35)
def linesP:Nat→Cft→List (List UInt8)→Nat ⊕ Cft
 | _,c,[]=>.inr c
 | i,c,x::l=>if skipB x then linesP (i+1) c l else match wordsP c (splitF 32 x) with
  | none=>.inl (i+1)
  | some c'=>linesP (i+1) c' l
def cft0:Cft:=⟨[],[],[]⟩
noncomputable def parseP (s:List UInt8):Int×Int×Cft :=
 if 16384 < s.length then (3,0,cft0) else match linesP 0 cft0 (splitF 10 s) with
 | .inl i=>(12,(i:Int),cft0)
 | .inr c=>if (whereF c.P c.C c.T).1=0 then (0,0,c) else ((whereF c.P c.C c.T).1,0,cft0)
def joinB (b:UInt8):List (List UInt8)→List UInt8
 | []=>[]
 | [x]=>x
 | x::y::l=>x++b::joinB b (y::l)
theorem split_join {b:UInt8}:∀ {l:List (List UInt8)},l≠[]→(∀ x∈l,b ∉ x)→splitF b (joinB b l)=l
 | [],h,_=>absurd rfl h
 | [x],_,h=>split_one (h x (by simp))
 | x::y::l,_,h=>by
  show splitF b (x++b::joinB b (y::l))=_
  rw [split_at _ (h x (by simp)),split_join (by simp) (fun z hz=>h z (List.mem_cons_of_mem _ hz))]
theorem join_head {b:UInt8} {x:List UInt8} {l:List (List UInt8)} (hx:x≠[]):(joinB b (x::l)).head? = x.head?:=by
 cases l with
 | nil=>rfl
 | cons y l =>
  show (x++b::joinB b (y::l)).head? = _
  cases x with
  | nil=>exact absurd rfl hx
  | cons c x=>rfl
def flagT (a b:Bool):List UInt8:=if a then (if b then [115,116] else [115]) else if b then [116] else [45]
def procT (q:Int×Int):List UInt8:=numB q.1.toNat++58::numB q.2.toNat
def healT (x:PtV):List UInt8:=numB x.h0.toNat++(numB x.h1.toNat++(numB x.h2.toNat++(numB x.h3.toNat++numB x.h4.toNat)))
def partW (y:Pq):List (List UInt8):=[wPart,toL y.1.name,numB y.1.bud.toNat,numB y.1.per.toNat,flagT y.1.sched y.1.stop,healT y.1,joinB 44 (y.2.map procT)]
def nmP (names:List (List UInt8)) (p:Int):List UInt8:=if 0≤p then names.getD p.toNat [] else []
def chanW (names:List (List UInt8)) (x:ChV):List (List UInt8):=[wChan,nmP names x.from_,nmP names x.to_,(if x.queue then 113::numB x.cap.toNat else [115]),numB x.max.toNat,numB x.late.toNat]
def tabW (names:List (List UInt8)) (f:F):List (List UInt8):=[wTable,txX (nmP names) f false]
def linesT (P:List Pq) (C:List ChV) (T:List F):List (List UInt8) :=
 P.map (fun y=>joinB 32 (partW y))++(C.map (fun x=>joinB 32 (chanW (namesP P) x))++T.map fun f=>joinB 32 (tabW (namesP P) f))
def textT (l:List (List UInt8)):List UInt8:=l.flatMap fun x=>x++[10]
theorem split_text:∀ {l:List (List UInt8)},(∀ x∈l,(10:UInt8) ∉ x)→splitF 10 (textT l)=l++[[]]
 | [],_=>rfl
 | x::l,h=>by
  show splitF 10 ((x++[10])++textT l)=_
  rw [List.append_assoc]
  show splitF 10 (x++10::textT l)=_
  rw [split_at _ (h x (by simp)),split_text fun y hy=>h y (by simp [hy])]
  rfl
theorem findF_at:∀ {names:List (List UInt8)} {i:Nat} {s:List UInt8},names[i]? = some s→(∀ j,j < i→names[j]?≠some s)→findF names s=(i:Int)
 | [],i,s,h,_=>by simp at h
 | x::l,0,s,h,_=>by
  have:x=s:=by simpa using h
  unfold findF
  rw [if_pos this]
  rfl
 | x::l,i+1,s,h,hn=>by
  have h1:x≠s:=fun e=>hn 0 (Nat.succ_pos _) (by rw [e];rfl)
  have h2:=findF_at (names:=l) (i:=i) (s:=s) (by simpa using h) fun j hj=>by have:=hn (j+1) (Nat.succ_lt_succ hj);simpa using this
  unfold findF
  rw [if_neg h1,h2,if_neg (by omega)]
  omega
theorem name_bytes {s:ByteArray} (h:nameF s=true):∀ c∈toL s,(97≤c.toNat∧c.toNat≤122)∨(48≤c.toNat∧c.toNat≤57)∨c.toNat=95:=by
 intro c hc
 unfold nameF at h
 simp only [Bool.and_eq_true,List.all_eq_true,List.mem_range] at h
 obtain ⟨j,hj⟩:=List.getElem?_of_mem hc
 obtain ⟨hj2,e⟩:=List.getElem?_eq_some_iff.1 hj
 have hlt:j < s.size:=by
  have:(toL s).length=s.size:=by unfold toL;rw [Array.length_toList];rfl
  omega
 have h1:=h.1 j hlt
 have e2:byteN s j=c.toNat:=by
  unfold byteN
  rw [dif_pos hlt,← e]
  simp [toL,ByteArray.getElem_eq_getElem_data]
 rw [e2] at h1
 unfold chB at h1
 simp only [Bool.or_eq_true,Bool.and_eq_true,decide_eq_true_eq] at h1
 rcases h1 with h1 | ⟨h1 | h1,_⟩
 ·exact .inl h1
 ·exact .inr (.inl h1)
 ·exact .inr (.inr h1)
theorem name_ne {s:ByteArray} (h:nameF s=true) {b:UInt8} (hb:b.toNat < 48∨b.toNat=58):b ∉ toL s:=fun hm=>by
 have:=name_bytes h b hm
 omega
theorem num_ne {n:Nat} {b:UInt8} (hb:b.toNat < 48∨57 < b.toNat):b ∉ numB n:=fun hm=>by
 have:=num_all n b hm
 unfold isD at this
 simp only [Bool.and_eq_true,decide_eq_true_eq] at this
 omega
end Txt
end Go.Proofs.YtfmndmhjjbeokaaGreatDoor
namespace Go.Proofs.YtfmndmhjjbeokaaGreatDoor
set_option maxRecDepth 100000
open Go.RowKit Tab Txt
set_option linter.unusedSimpArgs false
set_option linter.unusedVariables false
theorem OwnV.apart {E E' s s' B B' n n' c c':Nat} {w:World} {A A':Option Addr} {l l':List Value} (h:OwnV E s w B A n c l) (h':OwnV E' s' w B' A' n' c' l') (hE:E≠E'):∀ k,obk A=some k→obk A'≠some k:=fun k hk hk'=>by
 rcases h.2 with ⟨hv,_⟩ | ⟨g,_,cur,hv,_,hg,_⟩
 ·injection hv with h1
  rw [h1] at hk
  cases hk
 ·rcases h'.2 with ⟨hv',_⟩ | ⟨g',_,cur',hv',_,hg',_⟩
  ·injection hv' with h1
   rw [h1] at hk'
   cases hk'
  ·injection hv with h1
   injection hv' with h2
   rw [h1] at hk
   rw [h2] at hk'
   have e1:g=k:=by injection hk
   have e2:g'=k:=by injection hk'
   subst e1
   subst e2
   rw [hg] at hg'
   injection hg' with hg'
   injection hg' with _ h3
   exact hE h3
theorem OwnV.apart' {E E' s s' B B' n n' c c' g:Nat} {w:World} {A:Option Addr} {l l':List Value} (h:OwnV E s w B A n c l) (h':OwnV E' s' w B' (some ⟨g,0,none⟩) n' c' l') (hE:E≠E'):∀ k,A=some ⟨k,0,none⟩→k≠g:=fun k e e2=>h.apart h' hE k (by rw [e];rfl) (by rw [e2];rfl)
structure Trn (g:Nat) (w w':World):Prop where
 own:∀ (E s B':Nat) (A:Option Addr) (n c:Nat) (l:List Value),E≠150→OwnV E s w B' A n c l→OwnV E s w' B' A n c l
 bel:∀ B,B≤g→Below B w w'
theorem Trn.refl (g:Nat) (w:World):Trn g w w:=⟨fun _ _ _ _ _ _ _ _ h=>h,fun B _=>Below.refl _ _⟩
theorem Trn.trans {g:Nat} {w w1 w2:World} (h:Trn g w w1) (k:Trn g w1 w2):Trn g w w2 :=
 ⟨fun E s B' A n c l hE ho=>k.own E s B' A n c l hE (h.own E s B' A n c l hE ho),fun B hB=>(h.bel B hB).trans (k.bel B hB)⟩
theorem Trn.drewN {g:Nat} {w w':World} (h:Trn g w w') (k:Nat):Trn g w (w'.drewN k) :=
 ⟨fun E s B' A n c l hE ho=>(h.own E s B' A n c l hE ho).below rfl (Below.drewN (Below.refl _ _) k),fun B hB=>Below.drewN (h.bel B hB) k⟩
theorem Trn.set {B g:Nat} {s:List UInt8} {AN:Option Addr} {nn cn:Nat} {AO:Option Addr} {no co:Nat} {f p:Bool} {w:World} (h:RdrC B g s AN nn cn AO no co f p w) (k:Nat) (v:Value):Trn g w (w.setCell ⟨g,k,none⟩ v) :=
 ⟨fun E s B' A n c l hE ho=>OwnV.other ho _ _ (OwnV.apart' ho h hE),fun B hB=>(Below.refl _ _).setCell (p:=⟨g,k,none⟩) hB v⟩
section
variable {B g:Nat} {s:List UInt8} {AN:Option Addr} {nn cn:Nat} {AO:Option Addr} {no co:Nat} {f p:Bool} {w:World}
theorem RdrC.drewN (h:RdrC B g s AN nn cn AO no co f p w) (k:Nat):RdrC B g s AN nn cn AO no co f p (w.drewN k):=OwnV.below h rfl (Below.drewN (Below.refl _ _) k)
theorem RdrC.text (h:RdrC B g s AN nn cn AO no co f p w) (r:List UInt8):RdrC B g r AN nn cn AO no co f p (w.setCell ⟨g,0,none⟩ (.string (bsOf r))):=OwnV.set h 0 _ (by show 0 < 5;omega)
theorem RdrC.fell (h:RdrC B g s AN nn cn AO no co f p w) (b:Bool):RdrC B g s AN nn cn AO no co b p (w.setCell ⟨g,3,none⟩ (.bool b)):=OwnV.set h 3 _ (by show 3 < 5;omega)
theorem RdrC.rows (h:RdrC B g s AN nn cn AO no co f p w) (A':Option Addr) (n' c':Nat):RdrC B g s AN nn cn A' n' c' f p (w.setCell ⟨g,2,none⟩ (.slice A' n' c')):=OwnV.set h 2 _ (by show 2 < 5;omega)
theorem RdrC.cells (h:RdrC B g s AN nn cn AO no co f p w):(w.cell? ⟨g,0,none⟩=some (.string (bsOf s))∧w.cell? ⟨g,1,none⟩=some (.slice AN nn cn)∧w.cell? ⟨g,2,none⟩=some (.slice AO no co)∧w.cell? ⟨g,3,none⟩=some (.bool f)∧w.cell? ⟨g,4,none⟩=some (.bool p))∧(w.frozen? ⟨g,2,none⟩=false∧w.frozen? ⟨g,3,none⟩=false)∧B≤g∧g < w.heap.size :=
 ⟨⟨World.ownsRow.cellAt h 0 (by omega),World.ownsRow.cellAt h 1 (by omega),World.ownsRow.cellAt h 2 (by omega),World.ownsRow.cellAt h 3 (by omega),World.ownsRow.cellAt h 4 (by omega)⟩,⟨World.ownsRow.frozenAt h 2,World.ownsRow.frozenAt h 3⟩,OwnV.obk_ge h (b:=g) rfl⟩
end
theorem aheadT_le (p:UInt8→Bool) (s:List UInt8):(aheadT p s).length≤s.length:=(List.takeWhile_prefix _).length_le
theorem findF_none:∀ {L:List (List UInt8)} {s:List UInt8},(∀ j:Nat,L[j]?≠some s)→findF L s=-1
 | [],s,_=>rfl
 | x::l,s,h=>by
  have h1:x≠s:=fun e=>h 0 (by rw [e];rfl)
  have h2:=findF_none (L:=l) (s:=s) fun j=>by have:=h (j+1);simpa using this
  unfold findF
  rw [if_neg h1,h2]
  rfl
theorem bsOf_inj {l m:List UInt8} (h:bsOf l=bsOf m):l=m:=by
 have:=congrArg toL h
 rwa [toL_bsOf,toL_bsOf] at this
end Go.Proofs.YtfmndmhjjbeokaaGreatDoor
