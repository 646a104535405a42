import Derived.Test.YtfmndmhjjbeokaaGreatDoorLow21
set_option maxHeartbeats 2000000
set_option maxRecDepth 100000
set_option linter.unusedSimpArgs false
set_option linter.unusedVariables false
namespace Go.Proofs.YtfmndmhjjbeokaaGreatDoor
namespace Txt
open Tab
def lim32:Nat:=4294967295
def findF:List (List UInt8)->List UInt8->Int
 | [],_=>-1
 | x::l,s=>if x=s then 0 else if findF l s < 0 then -1 else findF l s+1
def healP:List UInt8->Option (Int×Int×Int×Int×Int)
 | [a,b,c,d,e]=>if (decide (48<=a.toNat/\a.toNat<=50) && decide (48<=b.toNat/\b.toNat<=50)) && (decide (48<=c.toNat/\c.toNat<=50) && (decide (48<=d.toNat/\d.toNat<=50) && decide (48<=e.toNat/\e.toNat<=50))) then
   some ((a.toNat:Int) - 48,(b.toNat:Int) - 48,(c.toNat:Int) - 48,(d.toNat:Int) - 48,(e.toNat:Int) - 48) else none
 | _=>none
def procP(x:List UInt8):Option (Int×Int):=match splitF 58 x with
 | [e,q]=>if (valF lim40 e).2 && (valF lim40 q).2 then some (((valF lim40 e).1:Int),((valF lim40 q).1:Int)) else none
 | _=>none
def procsP:List (List UInt8)->Option (List (Int×Int))
 | []=>some []
 | x::l=>match procP x with
  | none=>none
  | some q=>(procsP l).map (q::·)
def flagP(w:List UInt8):Option (Bool×Bool):=if w=[45] then some (false,false) else if w=[115] then some (true,false) else if w=[116] then some (false,true) else if w=[115,116] then some (true,true) else none
def partP:List (List UInt8)->Option Pq
 | [_,w1,w2,w3,w4,w5,w6]=>if (valF lim40 w2).2 && ((valF lim40 w3).2 && nameF (bsOf w1)) then
   match flagP w4,healP w5,procsP (splitF 44 w6) with
   | some f,some h,some L=>some (⟨bsOf w1,((valF lim40 w2).1:Int),((valF lim40 w3).1:Int),f.1,f.2,none,L.length,L.length,h.1,h.2.1,h.2.2.1,h.2.2.2.1,h.2.2.2.2⟩,L)
   | _,_,_=>none
  else none
 | _=>none
def chanP(names:List (List UInt8)):List (List UInt8)->Option ChV
 | [_,w1,w2,w3,w4,w5]=>if decide (0<=findF names w1) && (decide (0<=findF names w2) && ((valF lim32 w4).2 && (valF lim40 w5).2)) then
   match w3 with
   | []=>none
   | k::r=>if k=113 then (if (valF lim40 r).2 then some ⟨findF names w1,findF names w2,true,((valF lim40 r).1:Int),((valF lim32 w4).1:Int),((valF lim40 w5).1:Int)⟩ else none)
    else if k=115/\r=[] then some ⟨findF names w1,findF names w2,false,0,((valF lim32 w4).1:Int),((valF lim40 w5).1:Int)⟩ else none
  else none
 | _=>none
def ndT0(l:List Nd):NdT:=⟨none,l.length,l.length,l⟩
def tabP(names:List (List UInt8)):List (List UInt8)->Option NdT
 | [_,w1]=>(tableR (findF names) w1).map ndT0
 | _=>none
structure Cft where
 P:List Pq
 C:List ChV
 T:List NdT
def namesP(P:List Pq):List (List UInt8):=P.map fun p=>toL p.1.name
def wPart:List UInt8:=[112,97,114,116]
def wChan:List UInt8:=[99,104,97,110]
def wTable:List UInt8:=[116,97,98,108,101]
def wordsP(c:Cft)(w:List (List UInt8)):Option Cft :=
 if w.head? = some wPart then (partP w).map fun p=>⟨c.P++[p],c.C,c.T⟩
 else if w.head? = some wChan then (chanP (namesP c.P) w).map fun x=>⟨c.P,c.C++[x],c.T⟩
 else if w.head? = some wTable then (tabP (namesP c.P) w).map fun t=>⟨c.P,c.C,c.T++[t]⟩
 else none
def skipB(x:List UInt8):Bool:=decide (x=[]) || decide (x.head? = some 35)
def linesP:Nat->Cft->List (List UInt8)->Nat ⊕ Cft
 | _,c,[]=>.inr c
 | i,c,x::l=>if skipB x then linesP (i+1) c l else match wordsP c (splitF 32 x) with
  | none=>.inl (i+1)
  | some c'=>linesP (i+1) c' l
def cft0:Cft:=⟨[],[],[]⟩
noncomputable def parseP(s:List UInt8):Int×Int×Cft :=
 if 16384 < s.length then (3,0,cft0) else match linesP 0 cft0 (splitF 10 s) with
 | .inl i=>(12,(i:Int),cft0)
 | .inr c=>if (D5 c.P c.C c.T).1=0 then (0,0,c) else ((D5 c.P c.C c.T).1,0,cft0)
def joinB(b:UInt8):List (List UInt8)->List UInt8
 | []=>[]
 | [x]=>x
 | x::y::l=>x++b::joinB b (y::l)
theorem split_join{b:UInt8}:∀ {l:List (List UInt8)},l≠[]->(∀ x∈l,b ∉ x)->splitF b (joinB b l)=l
 | [],h,_=>absurd rfl h
 | [x],_,h=>split_one (h x (by simp))
 | x::y::l,_,h=>by
  show splitF b (x++b::joinB b (y::l))=_
  rw[split_at _ (h x (by simp)),split_join (by simp) (fun z hz=>h z (List.mem_cons_of_mem _ hz))]
theorem join_head{b:UInt8}{x:List UInt8}{l:List (List UInt8)}(hx:x≠[]):(joinB b (x::l)).head? = x.head?:=by
 cases l with
 | nil=>rfl
 | cons y l =>
  show (x++b::joinB b (y::l)).head? = _;cases x with
  | nil=>exact absurd rfl hx
  | cons c x=>rfl
def flagT(a b:Bool):List UInt8:=if a then (if b then [115,116] else [115]) else if b then [116] else [45]
def procT(q:Int×Int):List UInt8:=numB q.1.toNat++58::numB q.2.toNat
def healT(x:PtV):List UInt8:=numB x.h0.toNat++(numB x.h1.toNat++(numB x.h2.toNat++(numB x.h3.toNat++numB x.h4.toNat)))
def partW(y:Pq):List (List UInt8):=[wPart,toL y.1.name,numB y.1.bud.toNat,numB y.1.per.toNat,flagT y.1.sched y.1.stop,healT y.1,joinB 44 (y.2.map procT)]
def nmP(names:List (List UInt8))(p:Int):List UInt8:=if 0<=p then names.getD p.toNat [] else []
def chanW(names:List (List UInt8))(x:ChV):List (List UInt8):=[wChan,nmP names x.from_,nmP names x.to_,(if x.queue then 113::numB x.cap.toNat else [115]),numB x.max.toNat,numB x.late.toNat]
def tabW(names:List (List UInt8))(f:F):List (List UInt8):=[wTable,txX (nmP names) f false]
def linesT(P:List Pq)(C:List ChV)(T:List F):List (List UInt8) :=
 P.map (fun y=>joinB 32 (partW y))++(C.map (fun x=>joinB 32 (chanW (namesP P) x))++T.map fun f=>joinB 32 (tabW (namesP P) f))
def textT(l:List (List UInt8)):List UInt8:=l.flatMap fun x=>x++[10]
theorem split_text:∀ {l:List (List UInt8)},(∀ x∈l,(10:UInt8) ∉ x)->splitF 10 (textT l)=l++[[]]
 | [],_=>rfl
 | x::l,h=>by
  show splitF 10 ((x++[10])++textT l)=_
  rw[Ar]
  show splitF 10 (x++10::textT l)=_
  rw[split_at _ (h x (by simp)),split_text fun y hy=>h y (by simp[hy])]
  rfl
theorem findF_at:∀ {names:List (List UInt8)} {i:Nat} {s:List UInt8},names[i]? = some s->(∀ j,j < i->names[j]?≠some s)->findF names s=(i:Int)
 | [],i,s,h,_=>by simp at h
 | x::l,0,s,h,_=>by
  have:x=s:=by simpa using h
  unfold findF
  rw[if_pos this]
  rfl
 | x::l,i+1,s,h,hn=>by
  have h1:x≠s:=fun e=>hn 0 (Nat.succ_pos _) (by rw[e];rfl)
  have h2:=findF_at (names:=l) (i:=i) (s:=s) (by simpa using h) fun j hj=>by have:=hn (j+1) (Nat.succ_lt_succ hj);simpa using this
  unfold findF
  rw[if_neg h1,h2,if_neg (by omega)]
  omega
theorem name_bytes{s:ByteArray}(h:nameF s=true):∀ c∈toL s,(97<=c.toNat/\c.toNat<=122)\/(48<=c.toNat/\c.toNat<=57)\/c.toNat=95:=by
 intro c hc;unfold nameF at h;simp only[Au,Ct,Cx] at h;obtain⟨j,hj⟩:=Bl hc;obtain⟨aB,e⟩:=Af.1 hj;have aA:j < s.size:=by
  have:(toL s).length=s.size:=by unfold toL;rw[C8];rfl
  omega
 have h1:=h.1 j aA;have e2:byteN s j=c.toNat:=by
  unfold byteN;rw[dif_pos aA,<- e];simp[toL,ByteArray.getElem_eq_getElem_data]
 rw[e2] at h1;unfold chB at h1;simp only[Dh,Au,Av] at h1;rcases h1 with h1 | ⟨h1 | h1,_⟩
 ·exact .inl h1
 ·exact .inr (.inl h1)
 exact .inr (.inr h1)
theorem name_ne{s:ByteArray}(h:nameF s=true){b:UInt8}(hb:b.toNat < 48\/b.toNat=58):b ∉ toL s:=fun hm=>by
 have:=name_bytes h b hm
 omega
theorem name_some{s:ByteArray}(h:nameF s=true):toL s≠[]:=fun e=>by
 unfold nameF at h
 simp only[Au,Av] at h
 have:(toL s).length=s.size:=by unfold toL;rw[C8];rfl
 rw[e] at this
 have h1:=h.2.1
 rw[<- this] at h1
 exact absurd h1 (by decide)
theorem num_ne{n:Nat}{b:UInt8}(hb:b.toNat < 48\/57 < b.toNat):b ∉ numB n:=fun hm=>by
 have:=num_all n b hm
 unfold isD at this
 simp only[Au,Av] at this
 omega
end Txt
end Go.Proofs.YtfmndmhjjbeokaaGreatDoor
namespace Go.Proofs.YtfmndmhjjbeokaaGreatDoor
open Go.RowKit Tab Txt
theorem OwnV.apart{E E' s s' B B' n n' c c':Nat}{w:World}{A A':Option Addr}{l l':List Value}(h:OwnV E s w B A n c l)(h':OwnV E' s' w B' A' n' c' l')(hE:E≠E'):∀ k,obk A=some k->obk A'≠some k:=fun k hk aA=>by
 rcases h.2 with ⟨hv,_⟩ | ⟨g,_,aE,hv,_,hg,_⟩
 ·injection hv with h1
  rw[h1] at hk
  cases hk
 ·rcases h'.2 with ⟨aC,_⟩ | ⟨g',_,aD,aC,_,aB,_⟩
  ·injection aC with h1
   rw[h1] at aA
   cases aA
  ·injection hv with h1
   injection aC with h2
   rw[h1] at hk
   rw[h2] at aA
   have e1:g=k:=by injection hk
   have e2:g'=k:=by injection aA
   subst e1
   subst e2
   rw[hg] at aB
   injection aB with aB
   injection aB with _ h3
   exact hE h3
theorem OwnV.apart'{E E' s s' B B' n n' c c' g:Nat}{w:World}{A:Option Addr}{l l':List Value}(h:OwnV E s w B A n c l)(h':OwnV E' s' w B' (some ⟨g,0,none⟩) n' c' l')(hE:E≠E'):∀ k,A=some ⟨k,0,none⟩->k≠g:=fun k e e2=>h.apart h' hE k (by rw[e];rfl) (by rw[e2];rfl)
structure Trn(g:Nat)(w w':World):Prop where
 own:∀(E s B':Nat) (A:Option Addr) (n c:Nat) (l:List Value),E≠150->OwnV E s w B' A n c l->OwnV E s w' B' A n c l
 bel:∀ B,B<=g->Below B w w'
theorem Trn.refl(g:Nat)(w:World):Trn g w w:=⟨fun _ _ _ _ _ _ _ _ h=>h,fun B _=>Aj _ _⟩
theorem Trn.trans{g:Nat}{w w1 w2:World}(h:Trn g w w1)(k:Trn g w1 w2):Trn g w w2 :=
 ⟨fun E s B' A n c l hE ho=>k.own E s B' A n c l hE (h.own E s B' A n c l hE ho),fun B hB=>(h.bel B hB).trans (k.bel B hB)⟩
theorem Trn.drewN{g:Nat}{w w':World}(h:Trn g w w')(k:Nat):Trn g w (w'.drewN k) :=
 ⟨fun E s B' A n c l hE ho=>(h.own E s B' A n c l hE ho).below rfl (Below.drewN (Aj _ _) k),fun B hB=>Below.drewN (h.bel B hB) k⟩
theorem Trn.set{B g:Nat}{s:List UInt8}{AN:Option Addr}{nn cn:Nat}{AO:Option Addr}{no co:Nat}{f p:Bool}{w:World}(h:Ex B g s AN nn cn AO no co f p w)(k:Nat)(v:Value):Trn g w (w.setCell ⟨g,k,none⟩ v) :=
 ⟨fun E s B' A n c l hE ho=>OwnV.other ho _ _ (OwnV.apart' ho h hE),fun B hB=>(Aj _ _).setCell (p:=⟨g,k,none⟩) hB v⟩
section
variable {B g:Nat} {s:List UInt8} {AN:Option Addr} {nn cn:Nat} {AO:Option Addr} {no co:Nat} {f p:Bool} {w:World}
theorem Ex.drewN(h:Ex B g s AN nn cn AO no co f p w)(k:Nat):Ex B g s AN nn cn AO no co f p (w.drewN k):=OwnV.below h rfl (Below.drewN (Aj _ _) k)
theorem Ex.text(h:Ex B g s AN nn cn AO no co f p w)(r:List UInt8):Ex B g r AN nn cn AO no co f p (w.setCell ⟨g,0,none⟩ (.string (bsOf r))):=OwnV.set h 0 _ (by show 0 < 5;omega)
theorem Ex.fell(h:Ex B g s AN nn cn AO no co f p w)(b:Bool):Ex B g s AN nn cn AO no co b p (w.setCell ⟨g,3,none⟩ (.bool b)):=OwnV.set h 3 _ (by show 3 < 5;omega)
theorem Ex.rows(h:Ex B g s AN nn cn AO no co f p w)(A':Option Addr)(n' c':Nat):Ex B g s AN nn cn A' n' c' f p (w.setCell ⟨g,2,none⟩ (.slice A' n' c')):=OwnV.set h 2 _ (by show 2 < 5;omega)
theorem Ex.cells(h:Ex B g s AN nn cn AO no co f p w):(w.cell? ⟨g,0,none⟩=some (.string (bsOf s))/\w.cell? ⟨g,1,none⟩=some (.slice AN nn cn)/\w.cell? ⟨g,2,none⟩=some (.slice AO no co)/\w.cell? ⟨g,3,none⟩=some (.bool f)/\w.cell? ⟨g,4,none⟩=some (.bool p))/\(w.frozen? ⟨g,2,none⟩=false/\w.frozen? ⟨g,3,none⟩=false)/\B<=g/\g < w.heap.size :=
 ⟨⟨Ah h 0 (by omega),Ah h 1 (by omega),Ah h 2 (by omega),Ah h 3 (by omega),Ah h 4 (by omega)⟩,⟨Aq h 2,Aq h 3⟩,OwnV.obk_ge h (b:=g) rfl⟩
end
theorem Px(B g:Nat)(s:List UInt8)(AN:Option Addr)(nn cn:Nat)(AO:Option Addr)(no co:Nat)(f p:Bool)(b:UInt8)(z:Int)(hz:z=(b.toNat:Int))(w:World)(h:Ex B g s AN nn cn AO no co f p w):
  Calls Tryz.prog 129 #[.pointer (some ⟨g,0,none⟩),.int .u8 z] w (fun e w'=>e=.returned (.bool (takeB b s).isSome)/\Ex B g ((takeB b s).getD s) AN nn cn AO no co f p w'/\Trn g w w'):=by
 refine(X7 B g s AN nn cn AO no co f p b z hz w h).mono ?_;rintro e w'⟨rfl,rfl⟩;refine⟨rfl,?_⟩;cases takeB b s with
 | none=>exact⟨h,Trn.refl _ _⟩
 | some r=>exact⟨h.text r,Trn.set h 0 _⟩
theorem Nj(B g:Nat)(s:List UInt8)(AN:Option Addr)(nn cn:Nat)(AO:Option Addr)(no co:Nat)(f p:Bool)(t:List UInt8)(v:Value)(hv:v=.string (bsOf t))(w:World)(h:Ex B g s AN nn cn AO no co f p w)(hs:s.length<=140737488351232)(ht:t.length<=140737488351232):
  Calls Tryz.prog 130 #[.pointer (some ⟨g,0,none⟩),v] w (fun e w'=>e=.returned (.string (bsOf (aheadT (fun c=>t.contains c) s)))/\Ex B g (behindT (fun c=>t.contains c) s) AN nn cn AO no co f p w'/\Trn g w w'):=by
 subst hv;refine(Ui B g s AN nn cn AO no co f p t w h hs ht).mono ?_;rintro e w'⟨rfl,k,rfl⟩;exact⟨rfl,(h.drewN k).text _,((Trn.refl g w).drewN k).trans (Trn.set (h.drewN k) 0 _)⟩
theorem kv:(fun c=>([44,40,41]:List UInt8).contains c)=st3:=by
 funext c;rw[Bool.eq_iff_iff];simp[st3]
theorem ku:(fun c=>([58,44,40,41]:List UInt8).contains c)=st4:=by
 funext c;rw[Bool.eq_iff_iff];simp[st4,st3]
theorem J9(p:UInt8->Bool)(s:List UInt8):(aheadT p s).length<=s.length:=(List.takeWhile_prefix _).length_le
theorem Jv(B g:Nat)(s:List UInt8)(AN:Option Addr)(nn cn:Nat)(AO:Option Addr)(no co:Nat)(f p:Bool)(w:World)(h:Ex B g s AN nn cn AO no co f p w)(hs:s.length<=140737488351232):
  Calls Tryz.prog 131 #[.pointer (some ⟨g,0,none⟩)] w (fun e w'=>e=.returned (.int .i64 ((valF lim40 (aheadT st3 s)).1:Int))/\Ex B g (behindT st3 s) AN nn cn AO no co (if (valF lim40 (aheadT st3 s)).2=true then f else true) p w'/\Trn g w w'):=by
 have HU:=hid (Nj B g s AN nn cn AO no co f p [44,40,41] (.string ⟨#[44,40,41]⟩) rfl w h hs (by decide));rw[kv] at HU;have hl:=J9 st3 s;have HV:=hid fun W=>Kk lim40 (Ag _) (aheadT st3 s) W (by omega);generalize valF lim40 (aheadT st3 s)=V at HV |-;obtain⟨v,ok⟩:=V;dsimp only at HV |-;clear h;go_in;go_wp2_with fail;refine HU.o.mono ?_;rintro e w1⟨rfl,h1,t1⟩;have H1:=hid h1;have T1:=hid t1;clear h1 t1 HU;go_wp2_with fail;refine(HV.o w1).mono ?_;rintro e w2⟨rfl,k,rfl⟩;have H2:=hid (H1.o.drewN k);have T2:=hid (T1.o.drewN k);clear H1 T1 HV;generalize w1.drewN k=w2 at H2 T2 |-;obtain⟨⟨m0,m1,m2,m3,m4⟩,⟨f2,f3⟩,_,_⟩:=H2.o.cells;cases ok with
 | true =>
  go_wp2;go_ret;exact⟨rfl,H2.o,T2.o⟩
 | false =>
  go_wp2;go_ret;exact⟨rfl,H2.o.fell true,T2.o.trans (Trn.set H2.o 3 _)⟩
theorem Kr:∀ {L:List (List UInt8)} {s:List UInt8},(∀ j:Nat,L[j]?≠some s)->findF L s=-1
 | [],s,_=>rfl
 | x::l,s,h=>by
  have h1:x≠s:=fun e=>h 0 (by rw[e];rfl)
  have h2:=Kr (L:=l) (s:=s) fun j=>by have:=h (j+1);simpa using this
  unfold findF
  rw[if_neg h1,h2]
  rfl
theorem Lr{l m:List UInt8}(h:bsOf l=bsOf m):l=m:=by
 have:=congrArg toL h;rwa [toL_bsOf,toL_bsOf] at this
theorem L7(A:Option Addr)(n c:Nat)(L:List (List UInt8))(s:List UInt8)(w:World)(h:RdB sc w w.heap.size A n L)(hn:n<=140737488351232):
  Calls Tryz.prog 101 #[.slice A n c,.string (bsOf s)] w (Qaq (.int .i64 (findF L s)) w):=by
 have HR:=hid h;have aC:=hid fun i (h1:L[i]? = some s) h2=>findF_at (names:=L) (i:=i) (s:=s) h1 h2;have aB:=hid fun h=>Kr (L:=L) (s:=s) h;have aI:=hid h.len;generalize findF L s=v at aC aB |-;clear h;go_in;go_wp2;go_loopw [5,8] (fun _ q wr=>∃ i:Nat,i<=n/\q=.int .i64 i/\(∀ j,j < i->L[j]?≠some s)/\w=wr) (fun _ q _=>n - (intOf q).toNat)
 case atStart=>exact⟨0,by omega,rfl,fun j hj=>by omega,rfl⟩
 obtain⟨i,hi,rfl,aF,rfl⟩:=hrel;have aA:=hid aF;clear aF;by_cases aG:i < n
 ·have aE:(i:Int) < (n:Int):=by omega
  obtain⟨ad,x,rfl,aJ,hx,c0,ck⟩:=HR.o.at_ Fl (by omega) aG;have c0:=c0 _ rfl;rw[Cj] at c0;by_cases aD:x=s
  ·have i1:((bsOf x).toList == (bsOf s).toList)=true:=by rw[aD];simp
   have HV:=hid (aC.o i (by rw[hx,aD]) aA.o);clear aC aB aA hx ck;go_wp2;go_ret;exact⟨by rw[HV.o];rfl,rfl⟩
  have i1:((bsOf x).toList == (bsOf s).toList)=false:=Et (Ac fun e=>aD (Lr e));have aH:Hd (∀ j,j < i+1->L[j]?≠some s):=hid fun j hj=>by
   rcases Bk j i with h5 | h5
   ·exact aA.o j h5
   obtain rfl:j=i:=by omega
   rw[hx];exact fun e=>aD (by injection e)
  clear aC aB aA hx ck;go_wp2;go_roundw
  case rel=>exact⟨i+1,by omega,by go_num,aH.o,by first | rfl | trivial⟩
  simp[intOf];omega
 have aE:¬ (i:Int) < (n:Int):=by omega
 have HV:=hid (aB.o fun j=>by
  rcases Bk j i with h5 | h5
  ·exact aA.o j h5
  rw[Bw (by rw[aI.o];omega)];exact fun e=>by cases e)
 clear aC aB aA;go_wp2;go_ret;exact⟨by rw[HV.o];rfl,rfl⟩
theorem elS:Elt 39 9 1 16 (.string ⟨#[]⟩):=⟨Tryz.underlying39,by kernel_rfl,rfl,by omega⟩
theorem Qz(l:List (List UInt8)):∀ u∈l.flatMap sc,u.oneCell'=true:=by
 intro u hu;obtain⟨x,_,hx⟩:=List.mem_flatMap.1 hu;obtain rfl:u=.string (bsOf x):=by simpa [sc] using hx
 rfl
theorem Qaw(l:List (List UInt8)):(l.flatMap sc).length=l.length:=by
 induction l with
 | nil=>rfl
 | cons x l ih=>rw[Cu,Aa,ih];show 1+_=_+1;omega
def SpA(L:List (List UInt8))(w:World)(e:Ending)(w':World):Prop:=∃ A n c,e=.returned (.slice A n c)/\L.length=n/\OwnV 9 1 w' w.heap.size A n c (L.flatMap sc)/\Below w.heap.size w w'
theorem Mn{b:UInt8}{s:List UInt8}{a i:Nat}(aD:a<=i)(aB:∀ j,a<=j->j < i->∀ c,s[j]? = some c->c≠b):
  (s[i]? = some b->splitF b (s.drop a)=((s.take i).drop a)::splitF b (s.drop (i+1)))/\(s.length<=i->splitF b (s.drop a)=[s.drop a]):=by
 have hx:b ∉ (s.take i).drop a:=fun hm=>by
  obtain⟨k,hk⟩:=Bl hm;have aC:=(Af.1 hk).1;rw[C1,Cl] at aC;rw[List.getElem?_drop,List.getElem?_take_of_lt (by omega)] at hk;exact aB (a+k) (by omega) (by omega) b hk rfl
 constructor
 ·intro hi;have aA:=(Af.1 hi).1;have e:s.drop a=(s.take i).drop a++b::s.drop (i+1):=by
   have h1:s=s.take i++s.drop i:=(Dl i s).symm;have h2:s.drop i=b::s.drop (i+1):=by
    rw[List.drop_eq_getElem_cons aA];congr 1;have:=Am aA;rw[hi] at this;injection this with this;exact this.symm
   have h3:s.drop a=(s.take i++s.drop i).drop a:=by rw[Dl]
   rw[h3,List.drop_append_of_le_length (by rw[Cl];omega),h2]
  rw[e];exact split_at _ hx
 intro hl;rw[Bd hl] at hx;exact split_one hx
theorem Ii(s:List UInt8)(b:UInt8)(z:Int)(hz:z=(b.toNat:Int))(w:World)(hs:s.length<=1048576):
  Calls Tryz.prog 65 #[.string (bsOf s),.int .u8 z] w (SpA (splitF b s) w):=by
 obtain⟨n,hn⟩:∃ n,n=s.length:=⟨_,rfl⟩;have aT:(bsOf s).size=n:=by rw[hn];rfl
 have aG:=hid fun i c (h:s[i]? = some c)=>sidx h;have aR:=hid (bs_ext s);have aQ:=hid fun a=>bs_from s a n hn.symm;have HN:=hid hn;have HZ:=hid hz;rw[<- hn] at hs;clear hz hn;generalize bsOf s=sv at aT aG aR aQ |-;obtain⟨R,hR⟩:∃ R,R=splitF b s:=⟨_,rfl⟩;rw[<- hR];have HR:=hid hR;clear hR;go_in;go_wp2;go_loopw [5,6,7] (fun o p q wr=>∃(i a m c:Nat) (A:Option Addr) (M:List (List UInt8)),a<=i/\i<=n/\m<=i/\q=.int .i64 i/\p=.int .i64 a/\o=.slice A m c/\M.length=m/\OwnV 9 1 wr w.heap.size A m c (M.flatMap sc)/\Below w.heap.size w wr/\R=M++splitF b (s.drop a)/\∀ j,a<=j->j < i->∀ c,s[j]? = some c->c≠b) (fun _ _ q _=>n - (intOf q).toNat)
 case atStart=>exact⟨0,0,0,0,none,[],by omega,by omega,by omega,rfl,rfl,rfl,rfl,OwnV.nil _ _ _ _,Aj _ _,by rw[HR.o];rfl,fun j h1 h2=>by omega⟩
 obtain⟨i,a,m,c,A,M,aP,hi,bB,rfl,rfl,rfl,hM,ho,hb,hq,aO⟩:=hrel;have HQ:=hid hq;have aE:=hid aO;have HO:=hid ho;have HB:=hid hb;have HM:=hid hM;clear hq aO ho hb hM;by_cases aU:i < n
 ·have aK:(i:Int) < (n:Int):=by omega
  obtain⟨d,hd⟩:∃ d,s[i]? = some d:=⟨_,Am (by rw[<- HN.o];exact aU)⟩;obtain⟨y,hy⟩:∃ y,y=d.toNat:=⟨_,rfl⟩;have bC:∀ W,(Instr.index 9 (.string sv) (.int .i64 (i:Int))).run Tryz.prog W=.ok (.int .u8 (y:Int)) W:=by rw[hy];exact aG.o i d hd
  by_cases aD:d=b
  ·have i1:((y:Int) == z)=true:=by rw[hy,HZ.o,aD];simp
   have aF:=(Mn (b:=b) (s:=s) aP aE.o).1 (by rw[hd,aD]);have aH:Hd (R=(M++[(s.take i).drop a])++splitF b (s.drop (i+1))):=hid (by rw[HQ.o,aF,Ar];rfl);have aY:sv.extract a i=bsOf ((s.take i).drop a):=aR.o a i;have aV:a<=n:=by omega
   have aA:=bl1 wr (.cells #[.string (bsOf ((s.take i).drop a))] 9);have aC:=HO.o.below rfl aA;have aJ:=rdV_new wr #[.string (bsOf ((s.take i).drop a))] 9 ([(s.take i).drop a].flatMap sc) rfl;have aB:w.heap.size<=(wr.alloc (.cells #[.string (bsOf ((s.take i).drop a))] 9)).heap.size:=Ai HB.o.size aA.size;have aN:=hid (HB.o.trans (aA.mono HB.o.size));have aM:Hd (∀ j,i+1<=j->j < i+1->∀ c,s[j]? = some c->c≠b):=hid fun j h1 h2=>by omega
   clear aF hd aD hy HQ aE HO aA aG;go_wp2_with (at_builtin;go_loud (refine Ea elS rfl (.tmp 19) (.tmp 24) rfl rfl w.heap.size A m c _ rfl aC _ 1 1 _ _ rfl aJ rfl Cv (Qz _) (by omega) (by unfold maxLen;omega) aB (m+1) rfl ((M++[(s.take i).drop a]).flatMap sc) (by rw[Bu]) ?_;intro A5 c5 w5 aI aL aX));have aZ:=hid aI;have bA:=hid (aN.o.trans aL);go_roundw
   case rel=>exact⟨i+1,i+1,m+1,c5,A5,M++[(s.take i).drop a],by omega,by omega,by omega,by go_num,by go_num,rfl,by rw[Aa,HM.o];rfl,aZ.o,bA.o,aH.o,aM.o⟩
   simp[intOf];omega
  have i1:((y:Int) == z)=false:=by
   rw[Ak,hy,HZ.o];exact fun e=>aD (Cz.1 (Int.ofNat.inj e))
  have aM:Hd (∀ j,a<=j->j < i+1->∀ c,s[j]? = some c->c≠b):=hid fun j h1 h2 c hc=>by
   rcases Bk j i with h3 | h3
   ·exact aE.o j h1 h3 c hc
   obtain rfl:j=i:=by omega
   rw[hd] at hc;injection hc with hc;rw[<- hc];exact aD
  clear hd aD hy aE aG;go_wp2;go_roundw
  case rel=>exact⟨i+1,a,m,c,A,M,by omega,by omega,by omega,by go_num,rfl,rfl,HM.o,HO.o,HB.o,HQ.o,aM.o⟩
  simp[intOf];omega
 have aK:¬ (i:Int) < (n:Int):=by omega
 have aF:=(Mn (b:=b) (s:=s) aP aE.o).2 (by rw[<- HN.o];omega);have aH:Hd (R=M++[s.drop a]):=hid (by rw[HQ.o,aF]);have aY:sv.extract a n=bsOf (s.drop a):=aQ.o a;have aV:a<=n:=by omega
 have aA:=bl1 wr (.cells #[.string (bsOf (s.drop a))] 9);have aC:=HO.o.below rfl aA;have aJ:=rdV_new wr #[.string (bsOf (s.drop a))] 9 ([s.drop a].flatMap sc) rfl;have aB:w.heap.size<=(wr.alloc (.cells #[.string (bsOf (s.drop a))] 9)).heap.size:=Ai HB.o.size aA.size;have aN:=hid (HB.o.trans (aA.mono HB.o.size));clear aF HQ aE HO aA aG;go_wp2_with (at_builtin;go_loud (refine Ea elS rfl (.tmp 28) (.tmp 32) rfl rfl w.heap.size A m c _ rfl aC _ 1 1 _ _ rfl aJ rfl Cv (Qz _) (by omega) (by unfold maxLen;omega) aB (m+1) rfl ((M++[s.drop a]).flatMap sc) (by rw[Bu]) ?_;intro A5 c5 w5 aI aL aX));go_ret;exact⟨A5,m+1,c5,rfl,by rw[aH.o,Aa,HM.o];rfl,by rw[aH.o];exact aI,aN.o.trans aL⟩
theorem R9(n:Nat)(hn:n < 9223372036854775808)(w:World):Calls Tryz.prog 23 #[.int .i64 (n:Int)] w (Qui (.string (bsOf (numB n))) w) :=
 (Gp n hn w).mono fun e w' ⟨h1,h2⟩=>⟨h1,0,h2.symm⟩
theorem lj{z:Int}(h:Ef z):(numB z.toNat).length<=20:=num_len_le 19 _ (by have:=h.2;omega)
theorem I8{nm:Int->List UInt8}(aA:∀ p,(nm p).length<=64):∀(f:F),(∀ y∈f.flat,Ef y.n)->∀ b,(txX nm f b).length<=f.sz*100
 | .nil,_,_=>by simp[txX]
 | .cons x k r,h,b=>by
  have h1:=I8 aA k (fun y hy=>h y (by simp[F.flat,hy])) false
  have h2:=I8 aA r (fun y hy=>h y (by simp[F.flat,hy])) true
  have h3:=lj (h x (by simp[F.flat]))
  have h4:=aA x.p
  have h5:(txN nm x (txX nm k false)).length<=90+(txX nm k false).length:=by
   unfold txN
   split
   ·simp only[Ad,Aa];omega
   ·split
    ·simp only[Ad];omega
    ·split
     ·simp only[Ad,Aa,Bh];omega
     ·simp only[Ad,Aa,Bh];omega
  show ((if b=true then [44] else [])++(txN nm x (txX nm k false)++txX nm r true)).length<=(1+k.sz+r.sz)*100
  rw[Aa,Aa]
  have h6:(if b=true then ([44]:List UInt8) else []).length<=1:=by split <;> simp
  omega
theorem Iq{L:List (List UInt8)}{p:Int}(hp:0<=p){x:List UInt8}(h:L[p.toNat]? = some x):nmP L p=x:=by
 unfold nmP;rw[if_pos hp,Dg,h];rfl
theorem Ip{L:List (List UInt8)}(h:∀ s∈L,s.length<=64)(p:Int):(nmP L p).length<=64:=by
 unfold nmP;split
 ·rw[Dg];cases e:L[p.toNat]? with
  | none=>show 0<=64;omega
  | some x=>exact h x (An e)
 show 0<=64;omega
theorem R7(A:Option Addr)(n cap:Nat)(l:List Nd)(hc:n<=cap)(hn:n<=1048576)(AN:Option Addr)(nn cn:Nat)(L:List (List UInt8))(hL:∀ s∈L,s.length<=64)(M:Nat):∀(p:Nat) (x:Nd) (k r:F) (t:List Nd) (w:World),k.sz < M->RdN w w.heap.size A n l->(F.cons x k r).ok->l.drop p=(F.cons x k r).flat++t->
  RdB sc w w.heap.size AN nn L->(∀ y∈l,y.k=1->y.p < nn)->
  Calls Tryz.prog 29 #[.slice A n cap,.int .i64 p,.slice AN nn cn] w (Ans (.string (bsOf (txN (nmP L) x (txX (nmP L) k false)))) w):=by
 induction M with
 | zero=>intro p x k r t w h;omega
 | succ M ih =>
  intro p x k r t w hM h aY hl hN cJ;obtain⟨hk,bR,hd,hx⟩:=Lk aY hl;have aZ:=h.len;rw[aZ] at bR;have hm:k.cnt<=n:=by have:=F.cnt_le_sz k;omega
  have dC:=hid fun j hj=>pos_dr aY.2.2.1 hd (by omega) j hj;have bQ:=hid aY.2.2.1;have cD:=hid aY.1;have cZ:=hid (An hx);have aJ:∀ y∈k.flat,Ef y.n:=fun y hy=>(h.bd y (List.mem_of_mem_drop (i:=p+1) (by rw[hd];exact List.mem_append_left _ hy))).2.2;have bY:=hid (I8 (Ip hL) k aJ false);have dE:=hid (show k.sz<=1048576 by omega);obtain⟨ad,x0,rfl,eC,bL,cG,k0,k1,k2⟩:=h.at_ (i:=p) (by omega);obtain rfl:x0=x:=by rw[hx] at bL;injection bL with h;exact h.symm
  have dA:=hid cG;generalize cL:k.cnt=m at hk hm dC;have dJ:(p:Int)<=1099511627776:=by omega
  have dV:p < n:=by omega
  have HM:=hid cL;have HK:=hid hk;have dU:=hid ih;have HH:=hid h;have dD:=hid hN;have dB:=hid cJ;obtain⟨xk,xp,xn⟩:=x0;dsimp only at k0 k1 k2 dA cD cZ;have bS:=bl1 w (.cells #[.int .i64 xk,.int .i64 xp,.int .i64 xn] 54);have hf:∀ o v,(#[Value.int .i64 xk,.int .i64 xp,.int .i64 xn]:Array Value)[o]? = some v->(w.alloc (.cells #[.int .i64 xk,.int .i64 xp,.int .i64 xn] 54)).cell? ⟨w.heap.size,o,none⟩=some v:=fun o v hv=>(Ab _ _ _ _ _).trans hv;have bG:w.heap.size < (w.alloc (.cells #[.int .i64 xk,.int .i64 xp,.int .i64 xn] 54)).heap.size:=by simp
  obtain⟨TX,bV⟩:∃ T,T=txX (nmP L) k false:=⟨_,rfl⟩;obtain⟨bI,aP⟩:∃ T,T=txN (nmP L) ⟨xk,xp,xn⟩ TX:=⟨_,rfl⟩;rw[<- bV] at bY |-;rw[<- aP];have dS:=hid bV;have bD:=hid aP;clear hk cL hl hd hx aZ aY ih h hN cJ aJ cG bL bV aP;go_in;go_upto_region 3 with fail;generalize w.alloc (.cells #[.int .i64 xk,.int .i64 xp,.int .i64 xn] 54)=w0 at bS hf bG |-;generalize cP:w.heap.size=gx at hf bG |-;have eG:=hid cP;have bE:=hid bS;have cE:=hid fun V (hv:Below w0.heap.size w0 V) o v hq=>(hv.cell (p:=⟨gx,o,none⟩) bG).trans (hf o v hq);clear bS hf bG cP k0 k1 k2;go_wp2_with fail;refine(L6 (some ad) n cap l (p:Int) w0 (HH.o.on bE.o) hc (by omega) (by omega) (by omega)).mono ?_;rw[HK.o];rintro e w1⟨A1,n1,c1,rfl,cI,eB,cR⟩;have bK:=hid cR;have dM:n1=m:=by have:=cI.len;simp[plc] at this;omega
  subst dM;go_wp2;clear cR;go_loopw [8,9,10,19] (fun d _ _ s wr=>∃(i:Nat) (aA:List UInt8),i<=n1/\s=.int .i64 i/\d=.string (bsOf aA)/\aA++txX (nmP L) (F.dr i k) (decide (0 < i))=TX/\Below w1.heap.size w1 wr) (fun _ _ _ s _=>n1 - (intOf s).toNat)
  case atStart=>exact⟨0,[],by omega,rfl,rfl,dS.o.symm,Aj _ _⟩
  obtain⟨i,aA,hi,rfl,rfl,he,hb⟩:=hrel;have HE:=hid he;have dO:aA.length<=104857600:=by
   have h1:=bY.o;have h2:=dE.o;rw[<- he,Aa] at h1;omega
  clear he;by_cases cM:i < n1
  ·obtain⟨hd,bM,dL,dK⟩:=dC.o i (by omega);obtain⟨y,ky,r',ed⟩:=dr_cons (f:=k) (j:=i) (by have:=HM.o;omega);have aH:=dr_ok bQ.o i;have cY:=dr_succ ed;have bN:=HE.o;rw[ed] at hd bM aH bN;have dN:ky.sz < M:=by simp only[F.sz] at bM;omega
   have aN:=M8 l (p+1) n1 i cM;obtain⟨CT,bW⟩:∃ C,C=txN (nmP L) y (txX (nmP L) ky false):=⟨_,rfl⟩;have aM:aA++((if decide (0 < i)=true then [44] else [])++(CT++txX (nmP L) r' true))=TX:=by rw[bW];exact bN
   have dZ:CT.length<=104857600:=by
    have h1:=bY.o;have h2:=dE.o;rw[<- aM] at h1;simp only[Aa] at h1;omega
   have dF:=hid cY;have bJ:=hid aM;have cF:=hid bW;clear bM ed cY bN aM bW;generalize pos l (p+1) i=P at hd dL dK aN;obtain⟨eE,z,rfl,_,hz,cQ⟩:=(cI.on hb).at_ cM;rw[aN] at hz;injection hz with hz;subst hz;clear aN;have k1:=bE.o.trans ((bK.o.trans (hb.mono bK.o.size)).mono bE.o.size);have cC:=hid (dU.o P y ky r' _ wr dN (HH.o.on k1) aH hd (dD.o.on k1) dB.o);rw[<- cF.o] at cC;by_cases cO:0 < i
   ·have i1:(0:Int) < (i:Int):=by omega
    have i2:decide (0 < i)=true:=Ae cO;have dQ:∀ W,(Op.stringOp .add (bsOf aA) ⟨#[44]⟩).run Tryz.prog W=.ok (.string (bsOf (aA++[44]))) W:=sadd aA [44] (by show _+1<=_;omega);have bB:=sadd (aA++[44]) CT (by rw[Aa];show _+1+_<=_;omega);have bZ:Hd (((aA++[44])++CT)++txX (nmP L) (F.dr (i+1) k) (decide (0 < i+1))=TX):=hid (by
     have h:=bJ.o;rw[i2,if_pos rfl] at h;rw[dF.o,Ae (Nat.succ_pos i),<- h];simp)
    clear hd aH bJ HE cF;go_wp2_with fail;refine cC.o.mono ?_;rintro e2 w4⟨rfl,bT⟩;go_wp2;go_roundw
    case rel=>exact⟨i+1,(aA++[44])++CT,by omega,by go_num,by first | rfl | simp,bZ.o,hb.trans (bT.mono hb.size)⟩
    simp[intOf];omega
   have i1:¬ (0:Int) < (i:Int):=by omega
   have i2:decide (0 < i)=false:=Ac cO;have bB:=sadd aA CT (by omega);have bZ:Hd ((aA++CT)++txX (nmP L) (F.dr (i+1) k) (decide (0 < i+1))=TX):=hid (by
    have h:=bJ.o;rw[i2,if_neg (by decide)] at h;rw[dF.o,Ae (Nat.succ_pos i),<- h];simp)
   clear hd aH bJ HE cF;go_wp2_with fail;refine cC.o.mono ?_;rintro e2 w4⟨rfl,bT⟩;go_wp2;go_roundw
   case rel=>exact⟨i+1,aA++CT,by omega,by go_num,rfl,bZ.o,hb.trans (bT.mono hb.size)⟩
   simp[intOf];omega
  have dY:n1<=i:=by omega
  have e1:=HE.o;have e2:F.dr i k=.nil:=by rw[show i=k.cnt by have:=HM.o;omega];exact dr_all k
  rw[e2] at e1;have e3:aA=TX:=by rw[<- e1];exact(Az aA).symm
  subst e3;have bH:=bK.o.trans (hb.mono bK.o.size);have aU:=hid (bE.o.trans (bH.mono bE.o.size));have f0:=cE.o wr bH 0 _ rfl;have f1:=cE.o wr bH 1 _ rfl;have f2:=cE.o wr bH 2 _ rfl;have bA:=cD.o;have cX:=fine_one bA;dsimp only at cX;obtain⟨N,cV⟩:∃ N:Nat,xn=(N:Int):=⟨xn.toNat,by omega⟩;have eF:=hid cV;have aQ:N < 9223372036854775808:=by have:=dA.o.2.2.2;dsimp only at this;omega
  have dT:=hid fun W=>R9 N aQ W;have dX:=num_len_le 19 N (by omega);have aG:=bD.o;subst cV;unfold txN at aG;dsimp only at aG;have aK:=hid aG;unfold fine at bA;simp only[Au,Av] at bA;have aB:=bA.2;clear aG bA HE e1 e2 bD cD cX
  try dsimp only at aB
  have cU:aA.length<=104857600:=dO;split at aB
  ·rename_i e1;subst e1;have dH:=Dk aB;have aX:=dB.o _ cZ.o rfl;dsimp only at aX;obtain⟨pn,dI⟩:∃ q:Nat,xp=(q:Int):=⟨xp.toNat,by omega⟩;subst dI;obtain⟨eD,nx,rfl,dP,bO,c0,ck⟩:=(dD.o.on aU.o).at_ Fl (by omega) (show pn < nn by omega);have c0:=c0 _ rfl;rw[Cj] at c0;have cK:nmP L (pn:Int)=nx:=Iq (by omega) bO;have bP:nx.length<=64:=hL _ (An bO);have aT:Hd (bI=119::(nx++58::numB N)):=hid (by have h:=aK.o;rw[if_pos rfl,cK] at h;exact h);obtain⟨u1,aD,aF,aC⟩:=addT (a:=[119]) (b:=nx) (x:=⟨#[119]⟩) (y:=(bsOf (nx))) rfl rfl 1 64 65 (by show 1<=1;omega) bP rfl (by decide);obtain⟨u2,aI,aL,aE⟩:=addT (a:=u1) (b:=[58]) (x:=(bsOf u1)) (y:=⟨#[58]⟩) rfl rfl 65 1 66 aF (by show 1<=1;omega) rfl (by decide);obtain⟨u3,aV,bF,aO⟩:=addT (a:=u2) (b:=numB N) (x:=(bsOf u2)) (y:=(bsOf (numB N))) rfl rfl 66 20 86 aL ((by omega)) rfl (by decide);have aR:=hid aD;have bC:=hid aI;have bX:=hid aV;clear aD aF aI aL aV bF;have dW:pn < nn:=by omega
   clear aB dH aX bO ck cK aK;go_wp2_with fail;go_quiet ((go_at_call 23;exact Qui.one (dT.o _)));go_wp2;go_ret;exact Ans.mk (by rw[aT.o,show 119::(nx++58::numB N)=u3 by rw[bX.o,bC.o,aR.o];simp];rfl) (by first | exact aU.o | exact aU.o.drew | exact Below.drewN aU.o _)
  rename_i e1;have q1:(xk == 1)=false:=Ak.2 e1;split at aB
  ·rename_i e2;rcases e2 with e2 | e2
   ·subst e2;have aT:Hd (bI=105::numB N):=hid (by have h:=aK.o;rw[if_neg (by decide),if_pos rfl] at h;exact h);obtain⟨u1,aD,aF,aC⟩:=addT (a:=[105]) (b:=numB N) (x:=⟨#[105]⟩) (y:=(bsOf (numB N))) rfl rfl 1 20 21 (by show 1<=1;omega) ((by omega)) rfl (by decide);have aR:=hid aD;clear aD aF;have cA:=hid fun W=>Gp N aQ W;clear aB aK e1 q1;go_wp2_with fail;refine(cA.o _).mono ?_;rintro e w7⟨rfl,rfl⟩;go_wp2;go_ret;exact Ans.mk (by rw[aT.o,show 105::numB N=u1 by rw[aR.o];rfl];rfl) aU.o
   subst e2;have aT:Hd (bI=114::(numB N++40::(aA++[41]))):=hid (by have h:=aK.o;rw[if_neg (by decide),if_neg (by decide),if_neg (by decide)] at h;exact h);obtain⟨u1,aD,aF,aC⟩:=addT (a:=[114]) (b:=numB N) (x:=⟨#[114]⟩) (y:=(bsOf (numB N))) rfl rfl 1 20 21 (by show 1<=1;omega) ((by omega)) rfl (by decide);obtain⟨u2,aI,aL,aE⟩:=addT (a:=u1) (b:=[40]) (x:=(bsOf u1)) (y:=⟨#[40]⟩) rfl rfl 21 1 22 aF (by show 1<=1;omega) rfl (by decide);obtain⟨u3,aV,bF,aO⟩:=addT (a:=u2) (b:=aA) (x:=(bsOf u2)) (y:=(bsOf (aA))) rfl rfl 22 104857600 104857622 aL cU rfl (by decide);obtain⟨u4,cH,dG,bU⟩:=addT (a:=u3) (b:=[41]) (x:=(bsOf u3)) (y:=⟨#[41]⟩) rfl rfl 104857622 1 104857623 bF (by show 1<=1;omega) rfl (by decide);have aR:=hid aD;have bC:=hid aI;have bX:=hid aV;have dR:=hid cH;clear aD aF aI aL aV bF cH dG;have cA:=hid fun W=>Gp N aQ W;clear aB aK e1 q1;go_wp2_with fail;refine(cA.o _).mono ?_;rintro e w7⟨rfl,rfl⟩;go_wp2;go_ret;exact Ans.mk (by rw[aT.o,show 114::(numB N++40::(aA++[41]))=u4 by rw[dR.o,bX.o,bC.o,aR.o];simp];rfl) aU.o
  split at aB
  ·rename_i e2 e3;subst e3;have aT:Hd (bI=115::40::(aA++[41])):=hid (by have h:=aK.o;rw[if_neg (by decide),if_neg (by decide),if_pos rfl] at h;exact h);obtain⟨u1,aD,aF,aC⟩:=addT (a:=[115,40]) (b:=aA) (x:=⟨#[115,40]⟩) (y:=(bsOf (aA))) rfl rfl 2 104857600 104857602 (by show 2<=2;omega) cU rfl (by decide);obtain⟨u2,aI,aL,aE⟩:=addT (a:=u1) (b:=[41]) (x:=(bsOf u1)) (y:=⟨#[41]⟩) rfl rfl 104857602 1 104857603 aF (by show 1<=1;omega) rfl (by decide);have aR:=hid aD;have bC:=hid aI;clear aD aF aI aL;clear aB aK e1 q1 e2;go_wp2;go_ret;exact Ans.mk (by rw[aT.o,show 115::40::(aA++[41])=u2 by rw[bC.o,aR.o];simp];rfl) aU.o
  cases aB
