import Derived.Test.YtdkngfdnfekgfaaGreatLot40
import Derived.Deep.Cut
set_option maxHeartbeats 16000000
set_option maxRecDepth 100000
set_option linter.unusedSimpArgs false
set_option linter.unusedVariables false
namespace Go.Proofs.YtdkngfdnfekgfaaGreat
open Go.RowKit Tab
structure CvO(w0:World)(gr gc:Nat)(x:Cf)(w:World):Prop where
 re:OwnV 26 3 w w0.heap.size (some ⟨gr,0,none⟩) 1 1 [.slice none 0 0,.slice none 0 0,.slice none 0 0]
 nr:gr≠gc
 s:CpS w0.heap.size gc x.A1 x.A2 x.A3 x.n1 x.n2 x.n3 x.c1 x.c2 x.c3 x.P x.C x.T w
 pt:∀ y∈x.P,(RdV w0 w0.heap.size y.1.pa (y.2.flatMap prc)∧y.1.pn≤y.1.pc)∨OwnV 59 2 w w0.heap.size y.1.pa y.1.pn y.1.pc (y.2.flatMap prc)
 tt:∀ y∈x.T,(RdV w0 w0.heap.size y.A (ns y.l)∧y.n≤y.c)∨OwnV 70 3 w w0.heap.size y.A y.n y.c (ns y.l)
 be:Below w0.heap.size w0 w
 ok:CfC x
section
variable {w0:World} {gr gc:Nat} {x:Cf} {w w':World}
theorem CvO.on(h:CvO w0 gr gc x w)(hb:Below w.heap.size w w'):CvO w0 gr gc x w' :=
 ⟨h.re.below rfl hb,h.nr,h.s.on hb,fun y hy=>(h.pt y hy).imp id fun k=>k.below rfl hb,fun y hy=>(h.tt y hy).imp id fun k=>k.below rfl hb,h.be.trans (hb.mono h.be.size),h.ok⟩
end
theorem CvO.fin{w0:World}{gr gc:Nat}{x:Cf}{w:World}{m:Nat}(h:CvO w0 gr gc x w)(hs:SmX m x):
  (w.cell? ⟨gr,0,none⟩=some (.slice none 0 0)∧w.cell? ⟨gr,1,none⟩=some (.slice none 0 0)∧w.cell? ⟨gr,2,none⟩=some (.slice none 0 0)∧w.frozen? ⟨gr,0,none⟩=false∧w.frozen? ⟨gr,1,none⟩=false∧w.frozen? ⟨gr,2,none⟩=false) ∧
  ((((w.setCell ⟨gr,0,none⟩ (.slice x.A1 x.n1 x.c1)).setCell ⟨gr,1,none⟩ (.slice x.A2 x.n2 x.c2)).setCell ⟨gr,2,none⟩ (.slice x.A3 x.n3 x.c3)).cell? ⟨gr,0,none⟩=some (.slice x.A1 x.n1 x.c1)∧(((w.setCell ⟨gr,0,none⟩ (.slice x.A1 x.n1 x.c1)).setCell ⟨gr,1,none⟩ (.slice x.A2 x.n2 x.c2)).setCell ⟨gr,2,none⟩ (.slice x.A3 x.n3 x.c3)).cell? ⟨gr,1,none⟩=some (.slice x.A2 x.n2 x.c2)∧(((w.setCell ⟨gr,0,none⟩ (.slice x.A1 x.n1 x.c1)).setCell ⟨gr,1,none⟩ (.slice x.A2 x.n2 x.c2)).setCell ⟨gr,2,none⟩ (.slice x.A3 x.n3 x.c3)).cell? ⟨gr,2,none⟩=some (.slice x.A3 x.n3 x.c3)) ∧
  OdA m w0 (.returned (.agg #[.slice x.A1 x.n1 x.c1,.slice x.A2 x.n2 x.c2,.slice x.A3 x.n3 x.c3])) (((w.setCell ⟨gr,0,none⟩ (.slice x.A1 x.n1 x.c1)).setCell ⟨gr,1,none⟩ (.slice x.A2 x.n2 x.c2)).setCell ⟨gr,2,none⟩ (.slice x.A3 x.n3 x.c3)):=by
 have s3:=((h.re.set 0 (.slice x.A1 x.n1 x.c1) (by show 0 < 3;omega)).set 1 (.slice x.A2 x.n2 x.c2) (by show 1 < 3;omega)).set 2 (.slice x.A3 x.n3 x.c3) (by show 2 < 3;omega)
 have hgB:=(h.re.obk_ge (b:=gr) rfl).1
 have o:∀ {E s n c:Nat} {A:Option Addr} {l:List Value},OwnV E s w w0.heap.size A n c l→E≠26→OwnV E s (((w.setCell ⟨gr,0,none⟩ (.slice x.A1 x.n1 x.c1)).setCell ⟨gr,1,none⟩ (.slice x.A2 x.n2 x.c2)).setCell ⟨gr,2,none⟩ (.slice x.A3 x.n3 x.c3)) w0.heap.size A n c l:=fun q hE =>
  ((q.other ⟨gr,0,none⟩ _ (q.ne' h.re hE)).other ⟨gr,1,none⟩ _ (q.ne' h.re hE)).other ⟨gr,2,none⟩ _ (q.ne' h.re hE)
 have hbe:Below w0.heap.size w0 (((w.setCell ⟨gr,0,none⟩ (.slice x.A1 x.n1 x.c1)).setCell ⟨gr,1,none⟩ (.slice x.A2 x.n2 x.c2)).setCell ⟨gr,2,none⟩ (.slice x.A3 x.n3 x.c3)):=((h.be.setCell (p:=⟨gr,0,none⟩) hgB _).setCell (p:=⟨gr,1,none⟩) hgB _).setCell (p:=⟨gr,2,none⟩) hgB _
 have p1:=o h.s.pp.own (by decide)
 have p2:=o h.s.ch.own (by decide)
 have p3:=o h.s.tb.own (by decide)
 refine⟨⟨World.ownsRow.cellAt h.re 0 (by omega),World.ownsRow.cellAt h.re 1 (by omega),World.ownsRow.cellAt h.re 2 (by omega),World.ownsRow.frozenAt h.re 0,World.ownsRow.frozenAt h.re 1,World.ownsRow.frozenAt h.re 2⟩,⟨World.ownsRow.cellAt s3 0 (by omega),World.ownsRow.cellAt s3 1 (by omega),World.ownsRow.cellAt s3 2 (by omega)⟩,x,rfl,⟨⟨h.s.pp.len,p1.rd⟩,⟨h.s.ch.len,p2.rd⟩,⟨h.s.tb.len,p3.rd⟩,fun y hy=>?_,fun y hy=>?_,h.s.pp.cap,h.s.ch.cap,h.s.tb.cap,h.ok.m1,h.ok.m2,h.ok.m3,h.ok.z⟩,hs,hbe⟩
 ·have hk:=h.ok.pt y hy
  have h1:RdV (((w.setCell ⟨gr,0,none⟩ (.slice x.A1 x.n1 x.c1)).setCell ⟨gr,1,none⟩ (.slice x.A2 x.n2 x.c2)).setCell ⟨gr,2,none⟩ (.slice x.A3 x.n3 x.c3)) (((w.setCell ⟨gr,0,none⟩ (.slice x.A1 x.n1 x.c1)).setCell ⟨gr,1,none⟩ (.slice x.A2 x.n2 x.c2)).setCell ⟨gr,2,none⟩ (.slice x.A3 x.n3 x.c3)).heap.size y.1.pa (y.2.flatMap prc)∧y.1.pn≤y.1.pc:=by
   rcases h.pt y hy with k | k
   ·exact⟨(k.1.below hbe).more hbe.size,k.2⟩
   ·exact⟨(o k (by decide)).rd,k.cap⟩
  exact⟨⟨hk.1,hk.2.1,⟨hk.2.2.1,h1.1⟩⟩,h1.2,hk.2.2.2⟩
 ·have hk:=h.ok.tt y hy
  have h1:RdV (((w.setCell ⟨gr,0,none⟩ (.slice x.A1 x.n1 x.c1)).setCell ⟨gr,1,none⟩ (.slice x.A2 x.n2 x.c2)).setCell ⟨gr,2,none⟩ (.slice x.A3 x.n3 x.c3)) (((w.setCell ⟨gr,0,none⟩ (.slice x.A1 x.n1 x.c1)).setCell ⟨gr,1,none⟩ (.slice x.A2 x.n2 x.c2)).setCell ⟨gr,2,none⟩ (.slice x.A3 x.n3 x.c3)).heap.size y.A (ns y.l)∧y.n≤y.c:=by
   rcases h.tt y hy with k | k
   ·exact⟨(k.1.below hbe).more hbe.size,k.2⟩
   ·exact⟨(o k (by decide)).rd,k.cap⟩
  exact⟨⟨hk.1,h1.1,hk.2.1⟩,h1.2,hk.2.2⟩
section
variable {w0:World} {gr gc g:Nat} {A1 A2 A3:Option Addr} {n1 n2 n3 c1 c2 c3:Nat} {P:List Pq} {C:List ChV} {T:List NdT} {w w':World}
theorem CvO.tab(h:CvO w0 gr gc ⟨A1,A2,some ⟨g,0,none⟩,n1,n2,n3,c1,c2,c3,P,C,T⟩ w){i:Nat}{x:NdT}(hx:T[i]? = some x)(y:NdT)(ho:OwnV 70 3 w w0.heap.size y.A y.n y.c (ns y.l))(hl:y.l.length=y.n)(hz:∀ z∈y.l,NdIn z)(hn:y.n*24≤140737488351232):
  CvO w0 gr gc ⟨A1,A2,some ⟨g,0,none⟩,n1,n2,n3,c1,c2,c3,P,C,T.set i y⟩ (w.setCell ⟨g,i,none⟩ (.slice y.A y.n y.c)):=by
 have htb:=h.s.tb.own;refine⟨h.re.other _ _ (h.re.ne' htb (by decide)),h.nr,h.s.putT hx rfl,fun z hz=>(h.pt z hz).imp id fun k=>k.other _ _ (k.ne' htb (by decide)),fun z hz=>?_,h.be.setCell (p:=⟨g,i,none⟩) (htb.obk_ge (b:=g) rfl).1 _,⟨h.ok.l1,h.ok.l2,by show (T.set i y).length=n3;rw[List.length_set];exact h.ok.l3,h.ok.pt,fun z hz=>?_,h.ok.m1,h.ok.m2,h.ok.m3,h.ok.z.1,h.ok.z.2.1,h.ok.z.2.2.1,h.ok.z.2.2.2.1,fun z hz=>?_⟩⟩
 ·rcases List.mem_or_eq_of_mem_set hz with hz | rfl
  ·exact(h.tt z hz).imp id fun k=>k.other _ _ (k.ne' htb (by decide))
  exact .inr (ho.other _ _ (ho.ne' htb (by decide)))
 ·rcases List.mem_or_eq_of_mem_set hz with hz | rfl
  ·exact h.ok.tt z hz
  exact⟨hl,‹_›,by omega⟩
 rcases List.mem_or_eq_of_mem_set hz with hz | rfl
 ·exact h.ok.z.2.2.2.2 z hz
 exact hn
theorem CvO.part(h:CvO w0 gr gc ⟨some ⟨g,0,none⟩,A2,A3,n1,n2,n3,c1,c2,c3,P,C,T⟩ w){i k:Nat}{x y:Pq}{v:Value}(hx:P[i]? = some x)(hk:k < 11)(hy:pcq y=(pcq x).set k v)(ho:OwnV 59 2 w w0.heap.size y.1.pa y.1.pn y.1.pc (y.2.flatMap prc))(hc:In64 y.1.per∧y.1.name.size≤140737488351232∧y.2.length=y.1.pn∧y.1.pn*16≤140737488351232):
  CvO w0 gr gc ⟨some ⟨g,0,none⟩,A2,A3,n1,n2,n3,c1,c2,c3,P.set i y,C,T⟩ (w.setCell ⟨g,i*11+k,none⟩ v):=by
 have hpp:=h.s.pp.own;refine⟨h.re.other _ _ (h.re.ne' hpp (by decide)),h.nr,h.s.put hx hk hy,fun z hz=>?_,fun z hz=>(h.tt z hz).imp id fun q=>q.other _ _ (q.ne' hpp (by decide)),h.be.setCell (p:=⟨g,i*11+k,none⟩) (hpp.obk_ge (b:=g) rfl).1 _,⟨by show (P.set i y).length=n1;rw[List.length_set];exact h.ok.l1,h.ok.l2,h.ok.l3,fun z hz=>?_,h.ok.tt,h.ok.m1,h.ok.m2,h.ok.m3,h.ok.z.1,h.ok.z.2.1,h.ok.z.2.2.1,fun z hz=>?_,h.ok.z.2.2.2.2⟩⟩
 ·rcases List.mem_or_eq_of_mem_set hz with hz | rfl
  ·exact(h.pt z hz).imp id fun q=>q.other _ _ (q.ne' hpp (by decide))
  exact .inr (ho.other _ _ (ho.ne' hpp (by decide)))
 ·rcases List.mem_or_eq_of_mem_set hz with hz | rfl
  ·exact h.ok.pt z hz
  exact⟨hc.1,hc.2.1,hc.2.2.1,by omega⟩
 rcases List.mem_or_eq_of_mem_set hz with hz | rfl
 ·exact h.ok.z.2.2.2.1 z hz
 exact hc.2.2.2
theorem CvO.chan(h:CvO w0 gr gc ⟨A1,A2,A3,n1,n2,n3,c1,c2,c3,P,C,T⟩ w){A':Option Addr}{c':Nat}{x:ChV}(hb:Below w0.heap.size w w')(hg:Grew A2 A' w w')(ho:OwnV 63 6 w' w0.heap.size A' (n2+1) c' ((C++[x]).flatMap cc))(hn:(n2+1)*48≤140737488351232):
  CvO w0 gr gc ⟨A1,A',A3,n1,n2+1,n3,c1,c',c3,P,C++[x],T⟩ (w'.setCell ⟨gc,1,none⟩ (.slice A' (n2+1:Nat) c')):=by
 have hch:=h.s.ch.own;have c1':=h.s.cf.grew hch (by decide) hg;have e1':=h.re.grew hch (by decide) hg;have p1:=h.s.pp.own.grew hch (by decide) hg;have t1:=h.s.tb.own.grew hch (by decide) hg;refine⟨e1'.other _ _ (fun q e=>by injection e with e;injection e with e;rw[← e];exact h.nr),h.nr,⟨c1'.set 1 _ (by show 1 < 3;omega),⟨h.s.pp.len,p1.other _ _ (p1.ne' c1' (by decide))⟩,⟨by rw[List.length_append,h.s.ch.len];rfl,ho.other _ _ (ho.ne' c1' (by decide))⟩,⟨h.s.tb.len,t1.other _ _ (t1.ne' c1' (by decide))⟩⟩,fun y hy=>?_,fun y hy=>?_,(h.be.trans hb).setCell (p:=⟨gc,1,none⟩) (c1'.obk_ge (b:=gc) rfl).1 _,⟨h.ok.l1,by show (C++[x]).length=n2+1;rw[List.length_append,h.s.ch.len];rfl,h.ok.l3,h.ok.pt,h.ok.tt,h.ok.m1,by show n2+1≤_;omega,h.ok.m3,h.ok.z.1,hn,h.ok.z.2.2⟩⟩
 ·refine(h.pt y hy).imp id fun q=>?_;have p:=q.grew hch (by decide) hg;exact p.other _ _ (p.ne' c1' (by decide))
 refine(h.tt y hy).imp id fun q=>?_;have p:=q.grew hch (by decide) hg;exact p.other _ _ (p.ne' c1' (by decide))
theorem CvO.tabs(h:CvO w0 gr gc ⟨A1,A2,A3,n1,n2,n3,c1,c2,c3,P,C,T⟩ w){A':Option Addr}{c':Nat}{x:NdT}(hb:Below w0.heap.size w w')(hg:Grew A3 A' w w')(hx:x∈T)(ho:OwnV 64 1 w' w0.heap.size A' (n3+1) c' ((T++[x]).flatMap tcn))(hn:(n3+1)*24≤140737488351232):
  CvO w0 gr gc ⟨A1,A2,A',n1,n2,n3+1,c1,c2,c',P,C,T++[x]⟩ (w'.setCell ⟨gc,2,none⟩ (.slice A' (n3+1:Nat) c')):=by
 have htb:=h.s.tb.own;have c1':=h.s.cf.grew htb (by decide) hg;have e1':=h.re.grew htb (by decide) hg;have p1:=h.s.pp.own.grew htb (by decide) hg;have t1:=h.s.ch.own.grew htb (by decide) hg;have hm:∀ y∈T++[x],y∈T:=fun y hy=>by
  rcases List.mem_append.1 hy with hy | hy
  ·exact hy
  obtain rfl:y=x:=by simpa using hy
  exact hx
 refine⟨e1'.other _ _ (fun q e=>by injection e with e;injection e with e;rw[← e];exact h.nr),h.nr,⟨c1'.set 2 _ (by show 2 < 3;omega),⟨h.s.pp.len,p1.other _ _ (p1.ne' c1' (by decide))⟩,⟨h.s.ch.len,t1.other _ _ (t1.ne' c1' (by decide))⟩,⟨by rw[List.length_append,h.s.tb.len];rfl,ho.other _ _ (ho.ne' c1' (by decide))⟩⟩,fun y hy=>?_,fun y hy=>?_,(h.be.trans hb).setCell (p:=⟨gc,2,none⟩) (c1'.obk_ge (b:=gc) rfl).1 _,⟨h.ok.l1,h.ok.l2,by show (T++[x]).length=n3+1;rw[List.length_append,h.s.tb.len];rfl,h.ok.pt,fun y hy=>h.ok.tt y (hm y hy),h.ok.m1,h.ok.m2,by show n3+1≤_;omega,h.ok.z.1,h.ok.z.2.1,hn,h.ok.z.2.2.2.1,fun y hy=>h.ok.z.2.2.2.2 y (hm y hy)⟩⟩
 ·refine(h.pt y hy).imp id fun q=>?_;have p:=q.grew htb (by decide) hg;exact p.other _ _ (p.ne' c1' (by decide))
 refine(h.tt y (hm y hy)).imp id fun q=>?_;have p:=q.grew htb (by decide) hg;exact p.other _ _ (p.ne' c1' (by decide))
theorem CvO.bare(h:CvO w0 gr gc ⟨A1,A2,A3,n1,n2,n3,c1,c2,c3,P,C,T⟩ w):CvO w0 gr gc ⟨A1,A2,none,n1,n2,0,c1,c2,0,P,C,[]⟩ (w.setCell ⟨gc,2,none⟩ (.slice none 0 0)) :=
 ⟨h.re.other _ _ (fun q e=>by injection e with e;injection e with e;rw[← e];exact h.nr),h.nr,⟨h.s.cf.set 2 _ (by show 2 < 3;omega),⟨h.s.pp.len,h.s.pp.own.other _ _ (h.s.pp.own.ne' h.s.cf (by decide))⟩,⟨h.s.ch.len,h.s.ch.own.other _ _ (h.s.ch.own.ne' h.s.cf (by decide))⟩,OwnB.nil _ _ _ _⟩,fun y hy=>(h.pt y hy).imp id fun q=>q.other _ _ (q.ne' h.s.cf (by decide)),(fun y hy=>by cases hy),h.be.setCell (p:=⟨gc,2,none⟩) (h.s.cf.obk_ge (b:=gc) rfl).1 _,
  ⟨h.ok.l1,h.ok.l2,rfl,h.ok.pt,(fun y hy=>by cases hy),h.ok.m1,h.ok.m2,Nat.zero_le _,h.ok.z.1,h.ok.z.2.1,by show 0*24≤_;omega,h.ok.z.2.2.2.1,(fun y hy=>by cases hy)⟩⟩
end
theorem CvO.pset{w0:World}{gr gc g i:Nat}{A1 A2 A3:Option Addr}{n1 n2 n3 c1 c2 c3:Nat}{P:List Pq}{C:List ChV}{T:List NdT}{w:World}(h:CvO w0 gr gc ⟨A1,A2,A3,n1,n2,n3,c1,c2,c3,P,C,T⟩ w){x:Pq}(hx:P[i]? = some x)(hg:x.1.pa=some ⟨g,0,none⟩)(ho:OwnV 59 2 w w0.heap.size x.1.pa x.1.pn x.1.pc (x.2.flatMap prc))
  (hd:∀(j:Nat) (y:Pq),P[j]? = some y→j≠i→(RdV w0 w0.heap.size y.1.pa (y.2.flatMap prc)∧y.1.pn≤y.1.pc)) {k:Nat} {q q':Int×Int} {v:Value} {j:Nat} (hq:x.2[j]? = some q) (hk:k < 2) (hv:prc q'=(prc q).set k v) :
  CvO w0 gr gc ⟨A1,A2,A3,n1,n2,n3,c1,c2,c3,P.set i (x.1,x.2.set j q'),C,T⟩ (w.setCell ⟨g,j*2+k,none⟩ v):=by
 have hi:=(List.getElem?_eq_some_iff.1 hx).1
 have hob:OwnB 59 2 prc w w0.heap.size (some ⟨g,0,none⟩) x.1.pn x.1.pc x.2:=⟨(h.ok.pt x (List.mem_of_getElem? hx)).2.2.1,by rw[← hg];exact ho⟩
 have hst:=hob.put prc_len hq hk hv
 have hpr:=hob.own
 have hfl:(P.set i (x.1,x.2.set j q')).flatMap pcq=P.flatMap pcq:=by
  rw[pcq_map,pcq_map,List.map_set,set_self (by rw[List.getElem?_map,hx];rfl)]
 refine⟨h.re.other _ _ (h.re.ne' hpr (by decide)),h.nr,⟨h.s.cf.other _ _ (h.s.cf.ne' hpr (by decide)),⟨by show (P.set i _).length=n1;rw[List.length_set];exact h.s.pp.len,by show OwnV _ _ _ _ _ _ _ ((P.set i _).flatMap pcq);rw[hfl];exact h.s.pp.own.other _ _ (h.s.pp.own.ne' hpr (by decide))⟩,⟨h.s.ch.len,h.s.ch.own.other _ _ (h.s.ch.own.ne' hpr (by decide))⟩,⟨h.s.tb.len,h.s.tb.own.other _ _ (h.s.tb.own.ne' hpr (by decide))⟩⟩,fun z hz=>?_,fun z hz=>(h.tt z hz).imp id fun q=>q.other _ _ (q.ne' hpr (by decide)),h.be.setCell (p:=⟨g,j*2+k,none⟩) (hpr.obk_ge (b:=g) rfl).1 _,⟨by show (P.set i _).length=n1;rw[List.length_set];exact h.ok.l1,h.ok.l2,h.ok.l3,fun z hz=>?_,h.ok.tt,h.ok.m1,h.ok.m2,h.ok.m3,h.ok.z.1,h.ok.z.2.1,h.ok.z.2.2.1,fun z hz=>?_,h.ok.z.2.2.2.2⟩⟩
 ·obtain⟨a,ha⟩:=List.getElem?_of_mem hz
  rw[List.getElem?_set] at ha
  split at ha
  ·injection ha with ha
   subst ha
   refine .inr ?_
   show OwnV _ _ _ _ x.1.pa _ _ _
   rw[hg]
   exact hst.own
  ·rename_i hne
   exact .inl (hd a z ha (Ne.symm hne))
 ·rcases List.mem_or_eq_of_mem_set hz with hz | rfl
  ·exact h.ok.pt z hz
  ·have hk:=h.ok.pt x (List.mem_of_getElem? hx)
   exact⟨hk.1,hk.2.1,by rw[List.length_set];exact hk.2.2.1,hk.2.2.2⟩
 ·rcases List.mem_or_eq_of_mem_set hz with hz | rfl
  ·exact h.ok.z.2.2.2.1 z hz
  ·exact h.ok.z.2.2.2.1 x (List.mem_of_getElem? hx)
theorem CvO.procs{w0:World}{gr gc g i:Nat}{A2 A3:Option Addr}{n1 n2 n3 c1 c2 c3:Nat}{P:List Pq}{C:List ChV}{T:List NdT}{w w':World}(h:CvO w0 gr gc ⟨some ⟨g,0,none⟩,A2,A3,n1,n2,n3,c1,c2,c3,P,C,T⟩ w){x:Pq}(hx:P[i]? = some x)(hown:OwnV 59 2 w w0.heap.size x.1.pa x.1.pn x.1.pc (x.2.flatMap prc))
  (hd:∀(j:Nat) (y:Pq),P[j]? = some y→j≠i→(RdV w0 w0.heap.size y.1.pa (y.2.flatMap prc)∧y.1.pn≤y.1.pc)) (hb:Below w0.heap.size w w') {A':Option Addr} {c':Nat} (hg:Grew x.1.pa A' w w') {L':List (Int×Int)} (ho:OwnV 59 2 w' w0.heap.size A' (x.1.pn+1) c' (L'.flatMap prc)) (hl:L'.length=x.1.pn+1) (hn:(x.1.pn+1)*16≤140737488351232) :
  CvO w0 gr gc ⟨some ⟨g,0,none⟩,A2,A3,n1,n2,n3,c1,c2,c3,P.set i ({ x.1 with pa:=A',pn:=x.1.pn+1,pc:=c' },L'),C,T⟩ (w'.setCell ⟨g,i*11+5,none⟩ (.slice A' (x.1.pn+1:Nat) c')):=by
 have hi:=(List.getElem?_eq_some_iff.1 hx).1
 have pp':=h.s.pp.own.grew hown (by decide) hg
 have re':=h.re.grew hown (by decide) hg
 have s':CpS w0.heap.size gc (some ⟨g,0,none⟩) A2 A3 n1 n2 n3 c1 c2 c3 P C T w':=⟨h.s.cf.grew hown (by decide) hg,⟨h.s.pp.len,pp'⟩,⟨h.s.ch.len,h.s.ch.own.grew hown (by decide) hg⟩,⟨h.s.tb.len,h.s.tb.own.grew hown (by decide) hg⟩⟩
 have hk:=h.ok.pt x (List.mem_of_getElem? hx)
 refine⟨re'.other _ _ (re'.ne' pp' (by decide)),h.nr,s'.put hx (by omega) rfl,fun z hz=>?_,fun z hz=>(h.tt z hz).imp id fun q=>?_,(h.be.trans hb).setCell (p:=⟨g,i*11+5,none⟩) (pp'.obk_ge (b:=g) rfl).1 _,⟨by show (P.set i _).length=n1;rw[List.length_set];exact h.ok.l1,h.ok.l2,h.ok.l3,fun z hz=>?_,h.ok.tt,h.ok.m1,h.ok.m2,h.ok.m3,h.ok.z.1,h.ok.z.2.1,h.ok.z.2.2.1,fun z hz=>?_,h.ok.z.2.2.2.2⟩⟩
 ·obtain⟨a,ha⟩:=List.getElem?_of_mem hz
  rw[List.getElem?_set] at ha
  split at ha
  ·injection ha with ha
   subst ha
   exact .inr (ho.other _ _ (ho.ne' pp' (by decide)))
  ·rename_i hne
   exact .inl (hd a z ha (Ne.symm hne))
 ·have p:=q.grew hown (by decide) hg
  exact p.other _ _ (p.ne' pp' (by decide))
 ·rcases List.mem_or_eq_of_mem_set hz with hz | rfl
  ·exact h.ok.pt z hz
  ·exact⟨hk.1,hk.2.1,hl,by show x.1.pn+1≤_;omega⟩
 ·rcases List.mem_or_eq_of_mem_set hz with hz | rfl
  ·exact h.ok.z.2.2.2.1 z hz
  ·exact hn
def lenAt(w:World)(g k:Nat):Nat:=match w.cell? ⟨g,k,none⟩ with
 | some (.slice _ n _)=>n
 | _=>0
theorem lenAt_eq{w:World}{g k n c:Nat}{A:Option Addr}(h:w.cell? ⟨g,k,none⟩=some (.slice A n c)):lenAt w g k=n:=by
 unfold lenAt;rw[h]
theorem OwnV.own{E s B n c g:Nat}{w:World}{l:List Value}(h:OwnV E s w B (some ⟨g,0,none⟩) n c l):OwnV E s w g (some ⟨g,0,none⟩) n c l :=
 ⟨h.1,h.2.elim .inl fun⟨g',cap,cur,hv,hbg,r⟩=>.inr ⟨g',cap,cur,hv,by injection hv with h1;injection h1 with h1;injection h1 with h1;omega,r⟩⟩
structure OxW(B:Nat)(W:World)(b:Int)(t0:NdT)(F:World→Prop)(live:Nat→Bool)(a:Act)(w:World):Prop where
 on:live 13=false→Below B W w
 r2:live 2=true→live 7=false→∃ g,a.eval (.tmp 217)=.slice (some ⟨g,0,none⟩) 0 0∧OwnV 70 3 w B (some ⟨g,0,none⟩) 0 0 []
 r7:live 7=true→live 11=false→∃ A' c',a.eval (.tmp 222)=.slice A' (t0.n:Nat) c'∧OwnV 70 3 w B A' t0.n c' (ns t0.l)
 r10:live 10=true→live 11=false→∃ g,a.eval (.tmp 225)=.slice (some ⟨g,0,none⟩) 1 1∧OwnV 70 3 w B (some ⟨g,0,none⟩) 1 1 (ns [⟨2,0,b⟩])
 ne:live 2=true→live 7=false→live 10=true→∀ g g',a.eval (.tmp 217)=.slice (some ⟨g,0,none⟩) 0 0→a.eval (.tmp 225)=.slice (some ⟨g',0,none⟩) 1 1→g≠g'
 r11:live 11=true→live 13=false→∃ A' c',a.eval (.tmp 226)=.slice A' (t0.n+1:Nat) c'∧OwnV 70 3 w B A' (t0.n+1) c' (ns (t0.l++[⟨2,0,b⟩]))
 r13:live 13=true→F w
theorem OxW.upd{B:Nat}{W:World}{b:Int}{t0:NdT}{F:World→Prop}{live:Nat→Bool}{a:Act}{w:World}(h:OxW B W b t0 F live a w)(i:Nat)(d:Tmp)(v:Value)(hi:i≠2∧i≠7∧i≠10∧i≠11∧i≠13:=by decide)(hd:d≠217∧d≠222∧d≠225∧d≠226:=by decide):OxW B W b t0 F (Rgs.upd live i) (a.put (some d) v) w:=by
 have e:∀ k,k≠i→Rgs.upd live i k=live k:=fun k hk=>by unfold Rgs.upd;simp[hk]
 have q:∀ t,d≠t→(a.put (some d) v).eval (.tmp t)=a.eval (.tmp t):=fun t ht=>Reg.eval_other _ _ _ _ ht;have h2:=e 2 (Ne.symm hi.1);have h7:=e 7 (Ne.symm hi.2.1);have h10:=e 10 (Ne.symm hi.2.2.1);have h11:=e 11 (Ne.symm hi.2.2.2.1);have h13:=e 13 (Ne.symm hi.2.2.2.2);have k1:=q 217 hd.1;have k2:=q 222 hd.2.1;have k3:=q 225 hd.2.2.1;have k4:=q 226 hd.2.2.2;exact⟨by rw[h13];exact h.on,by rw[h2,h7,k1];exact h.r2,by rw[h7,h11,k2];exact h.r7,by rw[h10,h11,k3];exact h.r10,by rw[h2,h7,h10,k1,k3];exact h.ne,by rw[h11,h13,k4];exact h.r11,by rw[h13];exact h.r13⟩
def OxV(gc g3 n3 d3:Nat)(b:Int)(t0:NdT)(j:Nat)(v:Value)(_:World):Prop:=match j with
 | 0=>v=.pointer (some ⟨gc,2,none⟩)
 | 1=>v=.slice (some ⟨g3,0,none⟩) n3 d3
 | 3=>v=.pointer (some ⟨gc,2,none⟩)
 | 4=>v=.slice (some ⟨g3,0,none⟩) n3 d3
 | 5=>v=.pointer (some ⟨g3,0,none⟩)
 | 6=>v=.slice t0.A t0.n t0.c
 | 8=>v=.int .i64 b
 | 9=>v=.agg #[.int .i64 2,.int .i64 0,.int .i64 b]
 | 12=>v=.pointer (some ⟨g3,0,none⟩)
 | _=>True
theorem odd_any(m:Nat)(x:Cf)(a b:Int)(w:World)(hm:m≤64)(hx:CfR w x)(hs:SmX m x)(hib:In64 b):Calls Tryz.prog 10 #[cfv x,.int .i64 a,.int .i64 b] w (OdA (m+16) w):=by
 have HIB:=hid hib;have HOK:=hid (CfC.of hx);have HPP:=hid hx.pp;have HCC:=hid hx.ch;have HTB:=hid hx.tb;have HPO:Hid (∀ y∈x.P,RdV w w.heap.size y.1.pa (y.2.flatMap prc)∧y.1.pn≤y.1.pc):=hid fun y hy=>⟨(hx.pt y hy).1.procs.rd,(hx.pt y hy).2.1⟩;have HTO:Hid (∀ y∈x.T,RdV w w.heap.size y.A (ns y.l)∧y.n≤y.c):=hid fun y hy=>⟨(hx.tt y hy).rd.rd,(hx.tt y hy).cap⟩;have HSM:=hid hs;have q1:=hs.p1;have q2:=hs.p2;have q3:=hs.c;have q4:=hs.t;clear hib hx hs;obtain⟨A1,A2,A3,n1,n2,n3,c1,c2,c3,P,C,T⟩:=x;dsimp only[cfv] at HOK HPP HCC HTB HPO HTO q1 q2 q3 q4 ⊢;have hs1:(w.alloc (.cells #[.slice A1 n1 c1,.slice A2 n2 c2,.slice A3 n3 c3] 26)).heap.size=w.heap.size+1:=by simp
 have hb1:=bl1 (w.alloc (.cells #[.slice A1 n1 c1,.slice A2 n2 c2,.slice A3 n3 c3] 26)) (.cells #[.slice none 0 0,.slice none 0 0,.slice none 0 0] 26);have HB0:=hid ((bl1 w (.cells #[.slice A1 n1 c1,.slice A2 n2 c2,.slice A3 n3 c3] 26)).trans (hb1.mono (bl1 w (.cells #[.slice A1 n1 c1,.slice A2 n2 c2,.slice A3 n3 c3] 26)).size));have HCF:=hid ((ownV_lit w 26 3 w.heap.size #[.slice A1 n1 c1,.slice A2 n2 c2,.slice A3 n3 c3] 1 rfl (Nat.le_refl _) (by unfold maxLen;omega)).below rfl hb1);have hre:=ownV_lit (w.alloc (.cells #[.slice A1 n1 c1,.slice A2 n2 c2,.slice A3 n3 c3] 26)) 26 3 w.heap.size #[.slice none 0 0,.slice none 0 0,.slice none 0 0] 1 rfl (by simp) (by unfold maxLen;omega);rw[hs1] at hre;have HRE:=hid hre;clear hs1 hb1 hre;go_enter Tryz.func10,Tryz.ntmps10;go_upto_region 1 with fail;generalize (w.alloc (.cells #[.slice A1 n1 c1,.slice A2 n2 c2,.slice A3 n3 c3] 26)).alloc (.cells #[.slice none 0 0,.slice none 0 0,.slice none 0 0] 26)=W0 at HB0 HCF HRE ⊢;have hgrc:w.heap.size+1≠w.heap.size:=by omega
 obtain⟨gr,hgr⟩:∃ gr,gr=w.heap.size+1:=⟨_,rfl⟩;rw[← hgr] at HRE hgrc ⊢;obtain⟨gc,hgc⟩:∃ gc,gc=w.heap.size:=⟨_,rfl⟩;have HCF:Hid (OwnV 26 3 W0 w.heap.size (some ⟨w.heap.size,0,none⟩) 1 1 [.slice A1 n1 c1,.slice A2 n2 c2,.slice A3 n3 c3]):=HCF;have hgcw:Hid (gc=w.heap.size):=hid hgc;have HCF:Hid (OwnV 26 3 W0 w.heap.size (some ⟨gc,0,none⟩) 1 1 [.slice A1 n1 c1,.slice A2 n2 c2,.slice A3 n3 c3]):=by rw[hgc];exact HCF
 have hgrc:gr≠gc:=by rw[hgc];exact hgrc
 rw[← hgc];clear hgr hgc;have hown:OwnV 57 11 (W0.alloc (.cells #[] 57)) W0.heap.size (some ⟨W0.heap.size,0,none⟩) 0 0 []:=ownV_lit W0 57 11 W0.heap.size #[] 0 rfl (Nat.le_refl _) (by unfold maxLen;omega);have hba:=bl1 W0 (.cells #[] 57);have hgcl:gc < W0.heap.size:=(HCF.out.obk_ge (b:=gc) rfl).2;have hr2:=((HPP.out.on HB0.out).on hba).rd;have hrl:(P.flatMap pcq).length=n1*11:=by rw[flat_len pcq_len,HPP.out.len]
 have m0:W0.cell? ⟨gc,0,none⟩=some (.slice A1 n1 c1):=World.ownsRow.cellAt HCF.out 0 (by omega);have m1:W0.cell? ⟨gc,1,none⟩=some (.slice A2 n2 c2):=World.ownsRow.cellAt HCF.out 1 (by omega);have m2:W0.cell? ⟨gc,2,none⟩=some (.slice A3 n3 c3):=World.ownsRow.cellAt HCF.out 2 (by omega);have mF:(W0.alloc (.cells #[] 57)).cell? ⟨gc,0,none⟩=some (.slice A1 n1 c1):=(hba.cell (p:=⟨gc,0,none⟩) hgcl).trans m0;have HST:Hid (∀ w4,Below W0.heap.size (W0.alloc (.cells #[] 57)) w4→w4.cell? ⟨gc,0,none⟩=some (.slice A1 n1 c1)∧w4.frozen? ⟨gc,0,none⟩=false):=hid fun w4 hb4 =>
  ⟨((hba.trans hb4).cell (p:=⟨gc,0,none⟩) hgcl).trans m0,World.ownsRow.frozenAt (HCF.out.below rfl (hba.trans hb4)) 0⟩
 have HFI:Hid (∀ D4 d4 w4,OwnV 57 11 w4 W0.heap.size D4 n1 d4 (P.flatMap pcq)→Below W0.heap.size (W0.alloc (.cells #[] 57)) w4→OwnV 26 3 (w4.setCell ⟨gc,0,none⟩ (.slice D4 (n1:Nat) d4)) w.heap.size (some ⟨gc,0,none⟩) 1 1 [.slice D4 n1 d4,.slice A2 n2 c2,.slice A3 n3 c3]∧OwnV 26 3 (w4.setCell ⟨gc,0,none⟩ (.slice D4 (n1:Nat) d4)) w.heap.size (some ⟨gr,0,none⟩) 1 1 [.slice none 0 0,.slice none 0 0,.slice none 0 0] ∧
   OwnV 57 11 (w4.setCell ⟨gc,0,none⟩ (.slice D4 (n1:Nat) d4)) w.heap.size D4 n1 d4 (P.flatMap pcq) ∧Below w.heap.size w (w4.setCell ⟨gc,0,none⟩ (.slice D4 (n1:Nat) d4))):=hid fun D4 d4 w4 ho hb4=>by
  have hbb:=hba.trans hb4;have hcf:=HCF.out.below rfl hbb;have hre:=HRE.out.below rfl hbb;have ho2:=ho.weak HB0.out.size;refine⟨hcf.set 0 _ (by show 0 < 3;omega),hre.other _ _ (fun q e=>by injection e with e;injection e with e;rw[← e];exact hgrc),ho2.other _ _ (ho2.ne' hcf (by decide)) ,(HB0.out.trans (hbb.mono HB0.out.size)).setCell (p:=⟨gc,0,none⟩) (by have:=hgcw.out;show w.heap.size≤gc;omega) _⟩
 clear hgcl;have hszz:W0.heap.size≤(W0.alloc (.cells #[] 57)).heap.size:=hba.size;have mX0:(W0.alloc (.cells #[] 57)).cell? ⟨gc,0,none⟩=some (.slice A1 n1 c1):=(hba.cell (p:=⟨gc,0,none⟩) (World.block_lt_of_cell? _ _ m0)).trans m0;clear hba m0 m1 m2 mX0;go_upto_region 2 with (at_builtin;go_loud (refine wpList_appV elPt rfl (.tmp 9) (.tmp 11) rfl rfl W0.heap.size (some ⟨W0.heap.size,0,none⟩) 0 0 [] rfl hown A1 n1 c1 (P.flatMap pcq) _ rfl hr2 hrl (pcq_one P) (by omega) (by unfold maxLen;omega) hszz n1 (Nat.zero_add n1) (P.flatMap pcq) rfl ?_;intro D1 d1 w4 hw4 hb4 _;obtain⟨z0,z1⟩:=HST.out w4 hb4));obtain⟨hcfn,hren,hp1n, hbn⟩:=HFI.out D1 d1 w4 hw4 hb4;clear z0 z1 hw4 hb4 HST HFI hown hr2 hrl mF hszz HCF HRE HB0;generalize w4.setCell ⟨gc,0,none⟩ (.slice D1 (n1:Nat) d1)=W1 at hcfn hren hp1n  hbn ⊢;have HCF:=hid hcfn;have HRE:=hid hren;have HR1:=hid hp1n;have HB0:=hid hbn;clear hcfn hren hp1n  hbn;have hown:OwnV 63 6 (W1.alloc (.cells #[] 63)) W1.heap.size (some ⟨W1.heap.size,0,none⟩) 0 0 []:=ownV_lit W1 63 6 W1.heap.size #[] 0 rfl (Nat.le_refl _) (by unfold maxLen;omega);have hba:=bl1 W1 (.cells #[] 63);have hgcl:gc < W1.heap.size:=(HCF.out.obk_ge (b:=gc) rfl).2;have hr2:=((HCC.out.on HB0.out).on hba).rd;have hrl:(C.flatMap cc).length=n2*6:=by rw[flat_len cc_len,HCC.out.len]
 have m0:W1.cell? ⟨gc,0,none⟩=some (.slice D1 n1 d1):=World.ownsRow.cellAt HCF.out 0 (by omega);have m1:W1.cell? ⟨gc,1,none⟩=some (.slice A2 n2 c2):=World.ownsRow.cellAt HCF.out 1 (by omega);have m2:W1.cell? ⟨gc,2,none⟩=some (.slice A3 n3 c3):=World.ownsRow.cellAt HCF.out 2 (by omega);have mF:(W1.alloc (.cells #[] 63)).cell? ⟨gc,1,none⟩=some (.slice A2 n2 c2):=(hba.cell (p:=⟨gc,1,none⟩) hgcl).trans m1;have HST:Hid (∀ w4,Below W1.heap.size (W1.alloc (.cells #[] 63)) w4→w4.cell? ⟨gc,1,none⟩=some (.slice A2 n2 c2)∧w4.frozen? ⟨gc,1,none⟩=false):=hid fun w4 hb4 =>
  ⟨((hba.trans hb4).cell (p:=⟨gc,1,none⟩) hgcl).trans m1,World.ownsRow.frozenAt (HCF.out.below rfl (hba.trans hb4)) 1⟩
 have HFI:Hid (∀ D4 d4 w4,OwnV 63 6 w4 W1.heap.size D4 n2 d4 (C.flatMap cc)→Below W1.heap.size (W1.alloc (.cells #[] 63)) w4→OwnV 26 3 (w4.setCell ⟨gc,1,none⟩ (.slice D4 (n2:Nat) d4)) w.heap.size (some ⟨gc,0,none⟩) 1 1 [.slice D1 n1 d1,.slice D4 n2 d4,.slice A3 n3 c3]∧OwnV 26 3 (w4.setCell ⟨gc,1,none⟩ (.slice D4 (n2:Nat) d4)) w.heap.size (some ⟨gr,0,none⟩) 1 1 [.slice none 0 0,.slice none 0 0,.slice none 0 0] ∧
   OwnV 63 6 (w4.setCell ⟨gc,1,none⟩ (.slice D4 (n2:Nat) d4)) w.heap.size D4 n2 d4 (C.flatMap cc) ∧OwnV 57 11 (w4.setCell ⟨gc,1,none⟩ (.slice D4 (n2:Nat) d4)) w.heap.size D1 n1 d1 (P.flatMap pcq)∧Below w.heap.size w (w4.setCell ⟨gc,1,none⟩ (.slice D4 (n2:Nat) d4))):=hid fun D4 d4 w4 ho hb4=>by
  have hbb:=hba.trans hb4;have hcf:=HCF.out.below rfl hbb;have hre:=HRE.out.below rfl hbb;have ho2:=ho.weak HB0.out.size;refine⟨hcf.set 1 _ (by show 1 < 3;omega),hre.other _ _ (fun q e=>by injection e with e;injection e with e;rw[← e];exact hgrc),ho2.other _ _ (ho2.ne' hcf (by decide)) ,by have h:=HR1.out.below rfl hbb;exact h.other _ _ (h.ne' hcf (by decide)),(HB0.out.trans (hbb.mono HB0.out.size)).setCell (p:=⟨gc,1,none⟩) (by have:=hgcw.out;show w.heap.size≤gc;omega) _⟩
 clear hgcl;have hszz:W1.heap.size≤(W1.alloc (.cells #[] 63)).heap.size:=hba.size;have mX0:(W1.alloc (.cells #[] 63)).cell? ⟨gc,0,none⟩=some (.slice D1 n1 d1):=(hba.cell (p:=⟨gc,0,none⟩) (World.block_lt_of_cell? _ _ m0)).trans m0;clear hba m0 m1 m2 mX0;go_upto_region 3 with (at_builtin;go_loud (refine wpList_appV elCh rfl (.tmp 14) (.tmp 16) rfl rfl W1.heap.size (some ⟨W1.heap.size,0,none⟩) 0 0 [] rfl hown A2 n2 c2 (C.flatMap cc) _ rfl hr2 hrl (cc_one C) (by omega) (by unfold maxLen;omega) hszz n2 (Nat.zero_add n2) (C.flatMap cc) rfl ?_;intro D2 d2 w4 hw4 hb4 _;obtain⟨z0,z1⟩:=HST.out w4 hb4));obtain⟨hcfn,hren,hp2n,hp1n,hbn⟩:=HFI.out D2 d2 w4 hw4 hb4;clear z0 z1 hw4 hb4 HST HFI hown hr2 hrl mF hszz HCF HRE HB0 HR1;generalize w4.setCell ⟨gc,1,none⟩ (.slice D2 (n2:Nat) d2)=W2 at hcfn hren hp2n hp1n hbn ⊢;have HCF:=hid hcfn;have HRE:=hid hren;have HR2:=hid hp2n;have HR1:=hid hp1n;have HB0:=hid hbn;clear hcfn hren hp2n hp1n hbn;have hown:OwnV 64 1 (W2.alloc (.cells #[] 64)) W2.heap.size (some ⟨W2.heap.size,0,none⟩) 0 0 []:=ownV_lit W2 64 1 W2.heap.size #[] 0 rfl (Nat.le_refl _) (by unfold maxLen;omega);have hba:=bl1 W2 (.cells #[] 64);have hgcl:gc < W2.heap.size:=(HCF.out.obk_ge (b:=gc) rfl).2;have hr2:=((HTB.out.on HB0.out).on hba).rd;have hrl:(T.flatMap tcn).length=n3*1:=by rw[flat_len tcn_len,HTB.out.len]
 have m0:W2.cell? ⟨gc,0,none⟩=some (.slice D1 n1 d1):=World.ownsRow.cellAt HCF.out 0 (by omega);have m1:W2.cell? ⟨gc,1,none⟩=some (.slice D2 n2 d2):=World.ownsRow.cellAt HCF.out 1 (by omega);have m2:W2.cell? ⟨gc,2,none⟩=some (.slice A3 n3 c3):=World.ownsRow.cellAt HCF.out 2 (by omega);have mF:(W2.alloc (.cells #[] 64)).cell? ⟨gc,2,none⟩=some (.slice A3 n3 c3):=(hba.cell (p:=⟨gc,2,none⟩) hgcl).trans m2;have HST:Hid (∀ w4,Below W2.heap.size (W2.alloc (.cells #[] 64)) w4→w4.cell? ⟨gc,2,none⟩=some (.slice A3 n3 c3)∧w4.frozen? ⟨gc,2,none⟩=false):=hid fun w4 hb4 =>
  ⟨((hba.trans hb4).cell (p:=⟨gc,2,none⟩) hgcl).trans m2,World.ownsRow.frozenAt (HCF.out.below rfl (hba.trans hb4)) 2⟩
 have HFI:Hid (∀ D4 d4 w4,OwnV 64 1 w4 W2.heap.size D4 n3 d4 (T.flatMap tcn)→Below W2.heap.size (W2.alloc (.cells #[] 64)) w4→OwnV 26 3 (w4.setCell ⟨gc,2,none⟩ (.slice D4 (n3:Nat) d4)) w.heap.size (some ⟨gc,0,none⟩) 1 1 [.slice D1 n1 d1,.slice D2 n2 d2,.slice D4 n3 d4]∧OwnV 26 3 (w4.setCell ⟨gc,2,none⟩ (.slice D4 (n3:Nat) d4)) w.heap.size (some ⟨gr,0,none⟩) 1 1 [.slice none 0 0,.slice none 0 0,.slice none 0 0] ∧
   OwnV 64 1 (w4.setCell ⟨gc,2,none⟩ (.slice D4 (n3:Nat) d4)) w.heap.size D4 n3 d4 (T.flatMap tcn) ∧OwnV 57 11 (w4.setCell ⟨gc,2,none⟩ (.slice D4 (n3:Nat) d4)) w.heap.size D1 n1 d1 (P.flatMap pcq)∧OwnV 63 6 (w4.setCell ⟨gc,2,none⟩ (.slice D4 (n3:Nat) d4)) w.heap.size D2 n2 d2 (C.flatMap cc)∧Below w.heap.size w (w4.setCell ⟨gc,2,none⟩ (.slice D4 (n3:Nat) d4))):=hid fun D4 d4 w4 ho hb4=>by
  have hbb:=hba.trans hb4;have hcf:=HCF.out.below rfl hbb;have hre:=HRE.out.below rfl hbb;have ho2:=ho.weak HB0.out.size;refine⟨hcf.set 2 _ (by show 2 < 3;omega),hre.other _ _ (fun q e=>by injection e with e;injection e with e;rw[← e];exact hgrc),ho2.other _ _ (ho2.ne' hcf (by decide)) ,by have h:=HR1.out.below rfl hbb;exact h.other _ _ (h.ne' hcf (by decide)),by have h:=HR2.out.below rfl hbb;exact h.other _ _ (h.ne' hcf (by decide)),(HB0.out.trans (hbb.mono HB0.out.size)).setCell (p:=⟨gc,2,none⟩) (by have:=hgcw.out;show w.heap.size≤gc;omega) _⟩
 clear hgcl;have hszz:W2.heap.size≤(W2.alloc (.cells #[] 64)).heap.size:=hba.size;have mX0:(W2.alloc (.cells #[] 64)).cell? ⟨gc,0,none⟩=some (.slice D1 n1 d1):=(hba.cell (p:=⟨gc,0,none⟩) (World.block_lt_of_cell? _ _ m0)).trans m0;clear hba m0 m1 m2 mX0;go_upto_region 4 with (at_builtin;go_loud (refine wpList_appV elNN rfl (.tmp 19) (.tmp 21) rfl rfl W2.heap.size (some ⟨W2.heap.size,0,none⟩) 0 0 [] rfl hown A3 n3 c3 (T.flatMap tcn) _ rfl hr2 hrl (tcn_one T) (by omega) (by unfold maxLen;omega) hszz n3 (Nat.zero_add n3) (T.flatMap tcn) rfl ?_;intro D3 d3 w4 hw4 hb4 _;obtain⟨z0,z1⟩:=HST.out w4 hb4));obtain⟨hcfn,hren,hp3n,hp1n,hp2n,hbn⟩:=HFI.out D3 d3 w4 hw4 hb4;clear z0 z1 hw4 hb4 HST HFI hown hr2 hrl mF hszz HCF HRE HB0 HR1 HR2;generalize w4.setCell ⟨gc,2,none⟩ (.slice D3 (n3:Nat) d3)=W3 at hcfn hren hp3n hp1n hp2n hbn ⊢;have HCF:=hid hcfn;have HRE:=hid hren;have HR3:=hid hp3n;have HR1:=hid hp1n;have HR2:=hid hp2n;have HB0:=hid hbn;clear hcfn hren hp3n hp1n hp2n hbn;have HV:=hid (CvO.mk (x:=⟨D1,D2,D3,n1,n2,n3,d1,d2,d3,P,C,T⟩) HRE.out hgrc ⟨HCF.out,⟨HPP.out.len,HR1.out⟩,⟨HCC.out.len,HR2.out⟩,⟨HTB.out.len,HR3.out⟩⟩ (fun y hy=>.inl (HPO.out y hy)) (fun y hy=>.inl (HTO.out y hy)) HB0.out ⟨HOK.out.l1,HOK.out.l2,HOK.out.l3,HOK.out.pt,HOK.out.tt,HOK.out.m1,HOK.out.m2,HOK.out.m3,HOK.out.z⟩);clear HRE HCF HR1 HR2 HR3 HB0 HOK HTO HPP HCC HTB hgcw;obtain⟨g1,e1,hBg1,hg1⟩:=HV.out.s.pp.block (by show 0 < n1;omega);have e1:D1=some ⟨g1,0,none⟩:=e1;subst e1;obtain⟨N,rfl⟩:∃ N,n1=N+1:=⟨n1 - 1,by omega⟩;obtain⟨m0,m1,m2⟩:=HV.out.s.cells;dsimp only at m0 m1 m2;go_upto_region 5 with fail;obtain⟨x,hx⟩:∃ x,P[N]? = some x:=⟨_,List.getElem?_eq_getElem (by have:=HV.out.ok.l1;dsimp only at this;omega)⟩;have hba:=bl1 W3 (.cells #[] 59);have hown:OwnV 59 2 (W3.alloc (.cells #[] 59)) W3.heap.size (some ⟨W3.heap.size,0,none⟩) 0 0 []:=ownV_lit W3 59 2 W3.heap.size #[] 0 rfl (Nat.le_refl _) (by unfold maxLen;omega);have hxo:=HV.out.ok.pt x (List.mem_of_getElem? hx);have hxz:x.1.pn*16≤140737488351232:=HV.out.ok.z.2.2.2.1 x (List.mem_of_getElem? hx);have hr2:RdV (W3.alloc (.cells #[] 59)) w.heap.size x.1.pa (x.2.flatMap prc):=((HPO.out x (List.mem_of_getElem? hx)).1.below HV.out.be).below (hba.mono HV.out.be.size);have hrl:(x.2.flatMap prc).length=x.1.pn*2:=by rw[flat_len prc_len,hxo.2.2.1]
 obtain⟨z5,f5⟩:=HV.out.s.pp.cell pcq_len (i:=N) (k:=5) (v:=.slice x.1.pa x.1.pn x.1.pc) hx (by omega) rfl;have z5':(W3.alloc (.cells #[] 59)).cell? ⟨g1,N*11+5,none⟩=some (.slice x.1.pa x.1.pn x.1.pc):=(hba.cell (p:=⟨g1,N*11+5,none⟩) hg1).trans z5;have HST:Hid (∀ w4,Below W3.heap.size (W3.alloc (.cells #[] 59)) w4→w4.cell? ⟨g1,N*11+5,none⟩=some (.slice x.1.pa x.1.pn x.1.pc)∧w4.frozen? ⟨g1,N*11+5,none⟩=false):=hid fun w4 hb4 =>
  ⟨((hba.trans hb4).cell (p:=⟨g1,N*11+5,none⟩) hg1).trans z5,World.ownsRow.frozenAt ((HV.out.on (hba.trans hb4)).s.pp.own) (N*11+5)⟩
 have HFI:Hid (∀ D4 d4 w4,OwnV 59 2 w4 W3.heap.size D4 x.1.pn d4 (x.2.flatMap prc)→Below W3.heap.size (W3.alloc (.cells #[] 59)) w4→CvO w gr gc ⟨some ⟨g1,0,none⟩,D2,D3,N+1,n2,n3,d1,d2,d3,P.set N ({ x.1 with pa:=D4,pc:=d4 },x.2),C,T⟩ (w4.setCell ⟨g1,N*11+5,none⟩ (.slice D4 (x.1.pn:Nat) d4))∧OwnV 59 2 (w4.setCell ⟨g1,N*11+5,none⟩ (.slice D4 (x.1.pn:Nat) d4)) w.heap.size D4 x.1.pn d4 (x.2.flatMap prc)):=hid fun D4 d4 w4 ho hb4=>by
  have h1:=HV.out.on (hba.trans hb4);have ho2:=ho.weak HV.out.be.size;exact⟨h1.part hx (k:=5) (y:=({ x.1 with pa:=D4,pc:=d4 },x.2)) (by omega) rfl ho2 ⟨hxo.1,hxo.2.1,hxo.2.2.1,hxz⟩,ho2.other _ _ (ho2.ne' h1.s.pp.own (by decide))⟩
 have hszz:W3.heap.size≤(W3.alloc (.cells #[] 59)).heap.size:=hba.size;clear hba z5 m0 m1 m2;go_upto_region 6 with (at_builtin;go_loud (refine wpList_appV elPc rfl (.tmp 32) (.tmp 36) rfl rfl W3.heap.size (some ⟨W3.heap.size,0,none⟩) 0 0 [] rfl hown x.1.pa x.1.pn x.1.pc (x.2.flatMap prc) _ rfl hr2 hrl (prc_one x.2) (by omega) (by unfold maxLen;omega) hszz x.1.pn (Nat.zero_add x.1.pn) (x.2.flatMap prc) rfl ?_;intro D4 d4 w4 hw4 hb4 _;obtain⟨z0,z1⟩:=HST.out w4 hb4));obtain⟨hV5,hP5⟩:=HFI.out D4 d4 w4 hw4 hb4;clear z0 z1 hw4 hb4 HST HFI hown hr2 hrl z5' f5 hszz;generalize w4.setCell ⟨g1,N*11+5,none⟩ (.slice D4 (x.1.pn:Nat) d4)=W at hV5 hP5 ⊢;have hPN:N < P.length:=(List.getElem?_eq_some_iff.1 hx).1;have hy:(P.set N (({ x.1 with pa:=D4,pc:=d4 },x.2):Pq))[N]? = some ({ x.1 with pa:=D4,pc:=d4 },x.2):=List.getElem?_set_self hPN;have HOTH:Hid (∀(j:Nat) (z:Pq),(P.set N (({ x.1 with pa:=D4,pc:=d4 },x.2):Pq))[j]? = some z→j≠N→RdV w w.heap.size z.1.pa (z.2.flatMap prc)∧z.1.pn≤z.1.pc):=hid fun j z hz hj=>by
  rw[List.getElem?_set_ne (Ne.symm hj)] at hz;exact HPO.out z (List.mem_of_getElem? hz)
 have HSX:=hid (show ∀ z∈P.set N (({ x.1 with pa:=D4,pc:=d4 },x.2):Pq),z.1.pn≤m from fun z hz=>by
  rcases List.mem_or_eq_of_mem_set hz with hz | rfl
  ·exact HSM.out.pr z hz
  exact HSM.out.pr x (List.mem_of_getElem? hx))
 have HND:=hid HSM.out.nd;clear HPO HSM hxo hxz HV;obtain⟨xv,L⟩:=x;dsimp only at hV5 hP5 hy HOTH HSX ⊢;obtain⟨yv,hyv⟩:∃ yv,yv=({ xv with pa:=D4,pc:=d4 }:PtV):=⟨_,rfl⟩;have e5:xv.pn=yv.pn:=by rw[hyv]
 have e6:D4=yv.pa:=by rw[hyv]
 have e7:d4=yv.pc:=by rw[hyv]
 rw[e5,e6,e7] at hP5;rw[← hyv] at hV5 hy HOTH HSX;clear e5 e6 e7 hyv hx hPN;generalize P.set N (yv,L)=Q at hV5 hy HOTH HSX;have HV:=hid hV5;have HPR:=hid hP5;clear hV5 hP5;go_wp2_with fail;refine(within_at a 15 15 _ rfl (by omega)).mono ?_;rintro e w5⟨k,hk,rfl,rfl⟩;obtain⟨m0,m1,m2⟩:=HV.out.s.cells;obtain⟨z5,f5⟩:=HV.out.s.pp.cell pcq_len (i:=N) (k:=5) (v:=.slice yv.pa yv.pn yv.pc) hy (by omega) rfl;dsimp only at m0 m1 m2;go_upto_region 7 with fail;go_cut [73] from 42 to 72 (fun v wx=>∃ q:Bool,v=.bool q∧wx=W∧(q=false→(((yv.pn:Int) == 0)=false∨(((k:Int) == 4)=false∧((k:Int) == 5)=false))∧(((n3:Int) == 0)=false∨(((k:Int) == 11)=false∧((k:Int) == 12)=false∧((k:Int) == 14)=false))))
 case first =>
  cases hp:((yv.pn:Int) == 0) with
  | false =>
   cases hz:((n3:Int) == 0) with
   | false =>
    go_wp2_with fail;go_meet
    case rel=>exact⟨false,rfl,rfl,fun _=>⟨.inl hp,.inl hz⟩⟩
   | true =>
    cases h11:((k:Int) == 11) with
    | true =>
     go_wp2_with fail;go_meet
     case rel=>exact⟨true,rfl,rfl,fun h=>by cases h⟩
    | false =>
     cases h12:((k:Int) == 12) with
     | true =>
      go_wp2_with fail;go_meet
      case rel=>exact⟨true,rfl,rfl,fun h=>by cases h⟩
     | false =>
      cases h14:((k:Int) == 14) with
      | true =>
       go_wp2_with fail;go_meet
       case rel=>exact⟨true,rfl,rfl,fun h=>by cases h⟩
      | false =>
       go_wp2_with fail;go_meet
       case rel=>exact⟨false,rfl,rfl,fun _=>⟨.inl hp,.inr ⟨h11,h12,h14⟩⟩⟩
  | true =>
   cases h4:((k:Int) == 4) with
   | true =>
    go_wp2_with fail;go_meet
    case rel=>exact⟨true,rfl,rfl,fun h=>by cases h⟩
   | false =>
    cases h5:((k:Int) == 5) with
    | true =>
     go_wp2_with fail;go_meet
     case rel=>exact⟨true,rfl,rfl,fun h=>by cases h⟩
    | false =>
     cases hz:((n3:Int) == 0) with
     | false =>
      go_wp2_with fail;go_meet
      case rel=>exact⟨false,rfl,rfl,fun _=>⟨.inr ⟨h4,h5⟩,.inl hz⟩⟩
     | true =>
      cases h11:((k:Int) == 11) with
      | true =>
       go_wp2_with fail;go_meet
       case rel=>exact⟨true,rfl,rfl,fun h=>by cases h⟩
      | false =>
       cases h12:((k:Int) == 12) with
       | true =>
        go_wp2_with fail;go_meet
        case rel=>exact⟨true,rfl,rfl,fun h=>by cases h⟩
       | false =>
        cases h14:((k:Int) == 14) with
        | true =>
         go_wp2_with fail;go_meet
         case rel=>exact⟨true,rfl,rfl,fun h=>by cases h⟩
        | false =>
         go_wp2_with fail;go_meet
         case rel=>exact⟨false,rfl,rfl,fun _=>⟨.inr ⟨h4,h5⟩,.inr ⟨h11,h12,h14⟩⟩⟩
 obtain⟨q,rfl,hwx,hq⟩:=hcut;have hwx:=hwx.symm;subst hwx;have hyo:=HV.out.ok.pt (yv,L) (List.mem_of_getElem? hy);have HYO:=hid hyo;have HYZ:Hid (yv.pn*16≤140737488351232):=hid (HV.out.ok.z.2.2.2.1 (yv,L) (List.mem_of_getElem? hy));have HYN:Hid (yv.pn≤m):=hid (HSX.out (yv,L) (List.mem_of_getElem? hy));clear hyo;cases q with
 | true =>
  clear z5 f5 m0 m1 m2 hq;have hsm:SmX (m+16) ⟨some ⟨g1,0,none⟩,D2,D3,N+1,n2,n3,d1,d2,d3,Q,C,T⟩:=⟨q1,by show N+1≤m+16;omega,by show n2≤m+16;omega,by show n3≤m+16;omega,fun z hz=>by have:=HSX.out z hz;omega,fun z hz=>by have:=HND.out z hz;omega⟩;have hcv:=HV.out;obtain⟨⟨z0,z1,z2,f0,f1,f2⟩,⟨e0,e1,e2⟩,hfin⟩:=hcv.fin hsm;have E0:=hid e0;have E1:=hid e1;have E2:=hid e2;have HFIN:=hid hfin
  obtain⟨m0,m1,m2⟩:=hcv.s.cells;dsimp only at z0 z1 z2 f0 f1 f2 m0 m1 m2 E0 E1 E2 HFIN;clear e0 e1 e2 hfin hcv hsm;go_wp2_with fail;exact bodyPost_ret (results_runC rfl rfl E0.out E1.out E2.out) rfl HFIN.out
 | false =>
  obtain⟨hq1,hq2⟩:=hq rfl;clear hq;rcases(by omega:k=0∨k=1∨k=2∨k=3∨k=4∨k=5∨k=6∨k=7∨k=8∨k=9∨k=10∨k=11∨k=12∨k=13∨k=14∨k=15) with rfl | rfl | rfl | rfl | rfl | rfl | rfl | rfl | rfl | rfl | rfl | rfl | rfl | rfl | rfl | rfl
  ·have hba:=bl1 W (.cells #[.string ⟨#[]⟩,.string ⟨#[49,97]⟩,.string ⟨#[112,97]⟩,.string ⟨#[111,107,95,49]⟩,.string ⟨#[116,104,105,114,116,101,101,110,108,111,110,103,95]⟩,.string ⟨#[65]⟩,.string ⟨#[116,119,101,108,118,101,95,108,111,110,103,95]⟩] 9);have hos:=ownV_lit W 9 1 w.heap.size #[.string ⟨#[]⟩,.string ⟨#[49,97]⟩,.string ⟨#[112,97]⟩,.string ⟨#[111,107,95,49]⟩,.string ⟨#[116,104,105,114,116,101,101,110,108,111,110,103,95]⟩,.string ⟨#[65]⟩,.string ⟨#[116,119,101,108,118,101,95,108,111,110,103,95]⟩] 7 rfl HV.out.be.size (by unfold maxLen;omega);have hVb:=HV.out.on hba;have hPb:=HPR.out.below rfl hba;clear m0 m1 m2 z5 f5;go_wp2_with fail;refine(within_at (bits .and .i64 b 15) 6 6 _ rfl (by omega)).mono ?_;rintro e w6⟨j,hj,rfl,rfl⟩;generalize W.alloc (.cells #[.string ⟨#[]⟩,.string ⟨#[49,97]⟩,.string ⟨#[112,97]⟩,.string ⟨#[111,107,95,49]⟩,.string ⟨#[116,104,105,114,116,101,101,110,108,111,110,103,95]⟩,.string ⟨#[65]⟩,.string ⟨#[116,119,101,108,118,101,95,108,111,110,103,95]⟩] 9)=W6 at hos hVb hPb ⊢;generalize W.heap.size=gs at hos ⊢;obtain⟨sn,hsn,hsz⟩:∃ sn:ByteArray,W6.cell? ⟨gs,j,none⟩=some (.string sn)∧sn.size≤140737488351232:=by
    rcases(by omega:j=0∨j=1∨j=2∨j=3∨j=4∨j=5∨j=6) with rfl | rfl | rfl | rfl | rfl | rfl | rfl
    ·exact⟨⟨#[]⟩,World.ownsRow.cellAt hos 0 (by omega),by show 0≤_;omega⟩
    ·exact⟨⟨#[49,97]⟩,World.ownsRow.cellAt hos 1 (by omega),by show 2≤_;omega⟩
    ·exact⟨⟨#[112,97]⟩,World.ownsRow.cellAt hos 2 (by omega),by show 2≤_;omega⟩
    ·exact⟨⟨#[111,107,95,49]⟩,World.ownsRow.cellAt hos 3 (by omega),by show 4≤_;omega⟩
    ·exact⟨⟨#[116,104,105,114,116,101,101,110,108,111,110,103,95]⟩,World.ownsRow.cellAt hos 4 (by omega),by show 13≤_;omega⟩
    ·exact⟨⟨#[65]⟩,World.ownsRow.cellAt hos 5 (by omega),by show 1≤_;omega⟩
    exact⟨⟨#[116,119,101,108,118,101,95,108,111,110,103,95]⟩,World.ownsRow.cellAt hos 6 (by omega),by show 12≤_;omega⟩
   have hj7:j < 7:=by omega
   have hjI:(j:Int) < 7:=by omega
   clear hba hos;have hcv:CvO w gr gc ⟨some ⟨g1,0,none⟩,D2,D3,N+1,n2,n3,d1,d2,d3,Q.set N (({ yv with name:=sn },L)),C,T⟩ (W6.setCell ⟨g1,N*11,none⟩ (.string sn)):=hVb.part hy (k:=0) (y:=({ yv with name:=sn },L)) (v:=.string sn) (by omega) rfl hPb ⟨(HYO.out).1,hsz,(HYO.out).2.2.1,HYZ.out⟩;obtain⟨zc,fc⟩:=hVb.s.pp.cell pcq_len (i:=N) (k:=0) (v:=.string yv.name) hy (by omega) rfl;have zc:W6.cell? ⟨g1,N*11,none⟩=some (.string yv.name):=zc;have fc:W6.frozen? ⟨g1,N*11,none⟩=false:=fc;clear hVb hPb;go_upto_region 44 with fail;generalize W6.setCell ⟨g1,N*11,none⟩ (.string sn)=Wk at hcv ⊢;clear zc fc hsn hjI;have hsm:SmX (m+16) ⟨some ⟨g1,0,none⟩,D2,D3,N+1,n2,n3,d1,d2,d3,Q.set N (({ yv with name:=sn },L)),C,T⟩:=⟨q1,by show N+1≤m+16;omega,by show n2≤m+16;omega,by show n3≤m+16;omega,fun z hz=>by
     rcases List.mem_or_eq_of_mem_set hz with hz | rfl
     ·have:=HSX.out z hz;omega
     have:=HYN.out;show yv.pn≤m+16;omega,fun z hz=>by have:=HND.out z hz;omega⟩
   obtain⟨⟨z0,z1,z2,f0,f1,f2⟩,⟨e0,e1,e2⟩,hfin⟩:=hcv.fin hsm;have E0:=hid e0;have E1:=hid e1;have E2:=hid e2;have HFIN:=hid hfin
   obtain⟨m0,m1,m2⟩:=hcv.s.cells;dsimp only at z0 z1 z2 f0 f1 f2 m0 m1 m2 E0 E1 E2 HFIN;clear e0 e1 e2 hfin hcv hsm;go_wp2_with fail;exact bodyPost_ret (results_runC rfl rfl E0.out E1.out E2.out) rfl HFIN.out
  ·have hcv:CvO w gr gc ⟨some ⟨g1,0,none⟩,D2,D3,N+1,n2,n3,d1,d2,d3,Q.set N (({ yv with bud:=b },L)),C,T⟩ (W.setCell ⟨g1,N*11+1,none⟩ (.int .i64 b)):=HV.out.part hy (k:=1) (y:=({ yv with bud:=b },L)) (v:=.int .i64 b) (by omega) rfl HPR.out ⟨(HYO.out).1,(HYO.out).2.1,(HYO.out).2.2.1,HYZ.out⟩;obtain⟨zc,fc⟩:=HV.out.s.pp.cell pcq_len (i:=N) (k:=1) (v:=.int .i64 yv.bud) hy (by omega) rfl;have zc:W.cell? ⟨g1,N*11+1,none⟩=some (.int .i64 yv.bud):=zc;have fc:W.frozen? ⟨g1,N*11+1,none⟩=false:=fc;go_upto_region 44 with fail;generalize W.setCell ⟨g1,N*11+1,none⟩ (.int .i64 b)=Wk at hcv ⊢;clear zc fc m0 m1 m2;have hsm:SmX (m+16) ⟨some ⟨g1,0,none⟩,D2,D3,N+1,n2,n3,d1,d2,d3,Q.set N (({ yv with bud:=b },L)),C,T⟩:=⟨q1,by show N+1≤m+16;omega,by show n2≤m+16;omega,by show n3≤m+16;omega,fun z hz=>by
     rcases List.mem_or_eq_of_mem_set hz with hz | rfl
     ·have:=HSX.out z hz;omega
     have:=HYN.out;show yv.pn≤m+16;omega,fun z hz=>by have:=HND.out z hz;omega⟩
   obtain⟨⟨z0,z1,z2,f0,f1,f2⟩,⟨e0,e1,e2⟩,hfin⟩:=hcv.fin hsm;have E0:=hid e0;have E1:=hid e1;have E2:=hid e2;have HFIN:=hid hfin
   obtain⟨m0,m1,m2⟩:=hcv.s.cells;dsimp only at z0 z1 z2 f0 f1 f2 m0 m1 m2 E0 E1 E2 HFIN;clear e0 e1 e2 hfin hcv hsm;go_wp2_with fail;exact bodyPost_ret (results_runC rfl rfl E0.out E1.out E2.out) rfl HFIN.out
  ·have hcv:CvO w gr gc ⟨some ⟨g1,0,none⟩,D2,D3,N+1,n2,n3,d1,d2,d3,Q.set N (({ yv with per:=b },L)),C,T⟩ (W.setCell ⟨g1,N*11+2,none⟩ (.int .i64 b)):=HV.out.part hy (k:=2) (y:=({ yv with per:=b },L)) (v:=.int .i64 b) (by omega) rfl HPR.out ⟨HIB.out,(HYO.out).2.1,(HYO.out).2.2.1,HYZ.out⟩;obtain⟨zc,fc⟩:=HV.out.s.pp.cell pcq_len (i:=N) (k:=2) (v:=.int .i64 yv.per) hy (by omega) rfl;have zc:W.cell? ⟨g1,N*11+2,none⟩=some (.int .i64 yv.per):=zc;have fc:W.frozen? ⟨g1,N*11+2,none⟩=false:=fc;go_upto_region 44 with fail;generalize W.setCell ⟨g1,N*11+2,none⟩ (.int .i64 b)=Wk at hcv ⊢;clear zc fc m0 m1 m2;have hsm:SmX (m+16) ⟨some ⟨g1,0,none⟩,D2,D3,N+1,n2,n3,d1,d2,d3,Q.set N (({ yv with per:=b },L)),C,T⟩:=⟨q1,by show N+1≤m+16;omega,by show n2≤m+16;omega,by show n3≤m+16;omega,fun z hz=>by
     rcases List.mem_or_eq_of_mem_set hz with hz | rfl
     ·have:=HSX.out z hz;omega
     have:=HYN.out;show yv.pn≤m+16;omega,fun z hz=>by have:=HND.out z hz;omega⟩
   obtain⟨⟨z0,z1,z2,f0,f1,f2⟩,⟨e0,e1,e2⟩,hfin⟩:=hcv.fin hsm;have E0:=hid e0;have E1:=hid e1;have E2:=hid e2;have HFIN:=hid hfin
   obtain⟨m0,m1,m2⟩:=hcv.s.cells;dsimp only at z0 z1 z2 f0 f1 f2 m0 m1 m2 E0 E1 E2 HFIN;clear e0 e1 e2 hfin hcv hsm;go_wp2_with fail;exact bodyPost_ret (results_runC rfl rfl E0.out E1.out E2.out) rfl HFIN.out
  ·obtain⟨M,hM,hle⟩:=and_mask b 3 (by omega);have hM:bits .and .i64 b 3=(M:Int):=hM;rcases(by omega:M=0∨M=1∨M=2∨M=3) with rfl | rfl | rfl | rfl
   ·have hcv:CvO w gr gc ⟨some ⟨g1,0,none⟩,D2,D3,N+1,n2,n3,d1,d2,d3,Q.set N (({ yv with h0:=b },L)),C,T⟩ (W.setCell ⟨g1,N*11+6,none⟩ (.int .i64 b)):=HV.out.part hy (k:=6) (y:=({ yv with h0:=b },L)) (v:=.int .i64 b) (by omega) rfl HPR.out ⟨(HYO.out).1,(HYO.out).2.1,(HYO.out).2.2.1,HYZ.out⟩;obtain⟨zc,fc⟩:=HV.out.s.pp.cell pcq_len (i:=N) (k:=6) (v:=.int .i64 yv.h0) hy (by omega) rfl;have zc:W.cell? ⟨g1,N*11+6,none⟩=some (.int .i64 yv.h0):=zc;have fc:W.frozen? ⟨g1,N*11+6,none⟩=false:=fc;go_upto_region 44 with fail;generalize W.setCell ⟨g1,N*11+6,none⟩ (.int .i64 b)=Wk at hcv ⊢;clear zc fc m0 m1 m2;have hsm:SmX (m+16) ⟨some ⟨g1,0,none⟩,D2,D3,N+1,n2,n3,d1,d2,d3,Q.set N (({ yv with h0:=b },L)),C,T⟩:=⟨q1,by show N+1≤m+16;omega,by show n2≤m+16;omega,by show n3≤m+16;omega,fun z hz=>by
      rcases List.mem_or_eq_of_mem_set hz with hz | rfl
      ·have:=HSX.out z hz;omega
      have:=HYN.out;show yv.pn≤m+16;omega,fun z hz=>by have:=HND.out z hz;omega⟩
    obtain⟨⟨z0,z1,z2,f0,f1,f2⟩,⟨e0,e1,e2⟩,hfin⟩:=hcv.fin hsm;have E0:=hid e0;have E1:=hid e1;have E2:=hid e2;have HFIN:=hid hfin
    obtain⟨m0,m1,m2⟩:=hcv.s.cells;dsimp only at z0 z1 z2 f0 f1 f2 m0 m1 m2 E0 E1 E2 HFIN;clear e0 e1 e2 hfin hcv hsm;go_wp2_with fail;exact bodyPost_ret (results_runC rfl rfl E0.out E1.out E2.out) rfl HFIN.out
   ·have hcv:CvO w gr gc ⟨some ⟨g1,0,none⟩,D2,D3,N+1,n2,n3,d1,d2,d3,Q.set N (({ yv with h1:=b },L)),C,T⟩ (W.setCell ⟨g1,N*11+7,none⟩ (.int .i64 b)):=HV.out.part hy (k:=7) (y:=({ yv with h1:=b },L)) (v:=.int .i64 b) (by omega) rfl HPR.out ⟨(HYO.out).1,(HYO.out).2.1,(HYO.out).2.2.1,HYZ.out⟩;obtain⟨zc,fc⟩:=HV.out.s.pp.cell pcq_len (i:=N) (k:=7) (v:=.int .i64 yv.h1) hy (by omega) rfl;have zc:W.cell? ⟨g1,N*11+7,none⟩=some (.int .i64 yv.h1):=zc;have fc:W.frozen? ⟨g1,N*11+7,none⟩=false:=fc;go_upto_region 44 with fail;generalize W.setCell ⟨g1,N*11+7,none⟩ (.int .i64 b)=Wk at hcv ⊢;clear zc fc m0 m1 m2;have hsm:SmX (m+16) ⟨some ⟨g1,0,none⟩,D2,D3,N+1,n2,n3,d1,d2,d3,Q.set N (({ yv with h1:=b },L)),C,T⟩:=⟨q1,by show N+1≤m+16;omega,by show n2≤m+16;omega,by show n3≤m+16;omega,fun z hz=>by
      rcases List.mem_or_eq_of_mem_set hz with hz | rfl
      ·have:=HSX.out z hz;omega
      have:=HYN.out;show yv.pn≤m+16;omega,fun z hz=>by have:=HND.out z hz;omega⟩
    obtain⟨⟨z0,z1,z2,f0,f1,f2⟩,⟨e0,e1,e2⟩,hfin⟩:=hcv.fin hsm;have E0:=hid e0;have E1:=hid e1;have E2:=hid e2;have HFIN:=hid hfin
    obtain⟨m0,m1,m2⟩:=hcv.s.cells;dsimp only at z0 z1 z2 f0 f1 f2 m0 m1 m2 E0 E1 E2 HFIN;clear e0 e1 e2 hfin hcv hsm;go_wp2_with fail;exact bodyPost_ret (results_runC rfl rfl E0.out E1.out E2.out) rfl HFIN.out
   ·have hcv:CvO w gr gc ⟨some ⟨g1,0,none⟩,D2,D3,N+1,n2,n3,d1,d2,d3,Q.set N (({ yv with h2:=b },L)),C,T⟩ (W.setCell ⟨g1,N*11+8,none⟩ (.int .i64 b)):=HV.out.part hy (k:=8) (y:=({ yv with h2:=b },L)) (v:=.int .i64 b) (by omega) rfl HPR.out ⟨(HYO.out).1,(HYO.out).2.1,(HYO.out).2.2.1,HYZ.out⟩;obtain⟨zc,fc⟩:=HV.out.s.pp.cell pcq_len (i:=N) (k:=8) (v:=.int .i64 yv.h2) hy (by omega) rfl;have zc:W.cell? ⟨g1,N*11+8,none⟩=some (.int .i64 yv.h2):=zc;have fc:W.frozen? ⟨g1,N*11+8,none⟩=false:=fc;go_upto_region 44 with fail;generalize W.setCell ⟨g1,N*11+8,none⟩ (.int .i64 b)=Wk at hcv ⊢;clear zc fc m0 m1 m2;have hsm:SmX (m+16) ⟨some ⟨g1,0,none⟩,D2,D3,N+1,n2,n3,d1,d2,d3,Q.set N (({ yv with h2:=b },L)),C,T⟩:=⟨q1,by show N+1≤m+16;omega,by show n2≤m+16;omega,by show n3≤m+16;omega,fun z hz=>by
      rcases List.mem_or_eq_of_mem_set hz with hz | rfl
      ·have:=HSX.out z hz;omega
      have:=HYN.out;show yv.pn≤m+16;omega,fun z hz=>by have:=HND.out z hz;omega⟩
    obtain⟨⟨z0,z1,z2,f0,f1,f2⟩,⟨e0,e1,e2⟩,hfin⟩:=hcv.fin hsm;have E0:=hid e0;have E1:=hid e1;have E2:=hid e2;have HFIN:=hid hfin
    obtain⟨m0,m1,m2⟩:=hcv.s.cells;dsimp only at z0 z1 z2 f0 f1 f2 m0 m1 m2 E0 E1 E2 HFIN;clear e0 e1 e2 hfin hcv hsm;go_wp2_with fail;exact bodyPost_ret (results_runC rfl rfl E0.out E1.out E2.out) rfl HFIN.out
   have hcv:CvO w gr gc ⟨some ⟨g1,0,none⟩,D2,D3,N+1,n2,n3,d1,d2,d3,Q.set N (({ yv with h3:=b },L)),C,T⟩ (W.setCell ⟨g1,N*11+9,none⟩ (.int .i64 b)):=HV.out.part hy (k:=9) (y:=({ yv with h3:=b },L)) (v:=.int .i64 b) (by omega) rfl HPR.out ⟨(HYO.out).1,(HYO.out).2.1,(HYO.out).2.2.1,HYZ.out⟩;obtain⟨zc,fc⟩:=HV.out.s.pp.cell pcq_len (i:=N) (k:=9) (v:=.int .i64 yv.h3) hy (by omega) rfl;have zc:W.cell? ⟨g1,N*11+9,none⟩=some (.int .i64 yv.h3):=zc;have fc:W.frozen? ⟨g1,N*11+9,none⟩=false:=fc;go_upto_region 44 with fail;generalize W.setCell ⟨g1,N*11+9,none⟩ (.int .i64 b)=Wk at hcv ⊢;clear zc fc m0 m1 m2;have hsm:SmX (m+16) ⟨some ⟨g1,0,none⟩,D2,D3,N+1,n2,n3,d1,d2,d3,Q.set N (({ yv with h3:=b },L)),C,T⟩:=⟨q1,by show N+1≤m+16;omega,by show n2≤m+16;omega,by show n3≤m+16;omega,fun z hz=>by
     rcases List.mem_or_eq_of_mem_set hz with hz | rfl
     ·have:=HSX.out z hz;omega
     have:=HYN.out;show yv.pn≤m+16;omega,fun z hz=>by have:=HND.out z hz;omega⟩
   obtain⟨⟨z0,z1,z2,f0,f1,f2⟩,⟨e0,e1,e2⟩,hfin⟩:=hcv.fin hsm;have E0:=hid e0;have E1:=hid e1;have E2:=hid e2;have HFIN:=hid hfin
   obtain⟨m0,m1,m2⟩:=hcv.s.cells;dsimp only at z0 z1 z2 f0 f1 f2 m0 m1 m2 E0 E1 E2 HFIN;clear e0 e1 e2 hfin hcv hsm;go_wp2_with fail;exact bodyPost_ret (results_runC rfl rfl E0.out E1.out E2.out) rfl HFIN.out
  ·have hpn:0 < yv.pn:=by
    rcases hq1 with h | ⟨h,h'⟩
    ·have:((yv.pn:Int) == 0)=false:=h;rcases Nat.eq_zero_or_pos yv.pn with h0 | h0
     ·rw[h0] at this;cases this
     exact h0
    cases h
   obtain⟨gp,ep,hBp,hgp⟩:=HPR.out.block hpn;obtain⟨q,hq0⟩:∃ q,L[0]? = some q:=⟨_,List.getElem?_eq_getElem (by have:=(HYO.out).2.2.1;dsimp only at this;omega)⟩;have hob:OwnB 59 2 prc W w.heap.size (some ⟨gp,0,none⟩) yv.pn yv.pc L:=⟨(HYO.out).2.2.1,by rw[← ep];exact HPR.out⟩;obtain⟨zp,fp⟩:=hob.cell prc_len (i:=0) (k:=0) (v:=.int .i64 q.1) hq0 (by omega) rfl;have zp:W.cell? ⟨gp,0,none⟩=some (.int .i64 q.1):=zp;have fp:W.frozen? ⟨gp,0,none⟩=false:=fp;have hcv:CvO w gr gc ⟨some ⟨g1,0,none⟩,D2,D3,N+1,n2,n3,d1,d2,d3,Q.set N (yv,L.set 0 (b,q.2)),C,T⟩ (W.setCell ⟨gp,0,none⟩ (.int .i64 b)):=HV.out.pset hy ep HPR.out HOTH.out (j:=0) (k:=0) (q':=(b,q.2)) hq0 (by omega) rfl;have z5:W.cell? ⟨g1,N*11+5,none⟩=some (.slice (some ⟨gp,0,none⟩) yv.pn yv.pc):=by rw[← ep];exact z5
   have hpi:((yv.pn:Int) == 0)=false:=by simp;omega
   go_upto_region 44 with fail;generalize W.setCell ⟨gp,0,none⟩ (.int .i64 b)=Wk at hcv ⊢;clear z5 zp fp m0 m1 m2 hob;have hsm:SmX (m+16) ⟨some ⟨g1,0,none⟩,D2,D3,N+1,n2,n3,d1,d2,d3,Q.set N (yv,L.set 0 (b,q.2)),C,T⟩:=⟨q1,by show N+1≤m+16;omega,by show n2≤m+16;omega,by show n3≤m+16;omega,fun z hz=>by
     rcases List.mem_or_eq_of_mem_set hz with hz | rfl
     ·have:=HSX.out z hz;omega
     have:=HYN.out;show yv.pn≤m+16;omega,fun z hz=>by have:=HND.out z hz;omega⟩
   obtain⟨⟨z0,z1,z2,f0,f1,f2⟩,⟨e0,e1,e2⟩,hfin⟩:=hcv.fin hsm;have E0:=hid e0;have E1:=hid e1;have E2:=hid e2;have HFIN:=hid hfin
   obtain⟨m0,m1,m2⟩:=hcv.s.cells;dsimp only at z0 z1 z2 f0 f1 f2 m0 m1 m2 E0 E1 E2 HFIN;clear e0 e1 e2 hfin hcv hsm;go_wp2_with fail;exact bodyPost_ret (results_runC rfl rfl E0.out E1.out E2.out) rfl HFIN.out
  ·have hpn:0 < yv.pn:=by
    rcases hq1 with h | ⟨h,h'⟩
    ·have:((yv.pn:Int) == 0)=false:=h;rcases Nat.eq_zero_or_pos yv.pn with h0 | h0
     ·rw[h0] at this;cases this
     exact h0
    cases h'
   obtain⟨gp,ep,hBp,hgp⟩:=HPR.out.block hpn;obtain⟨q,hq0⟩:∃ q,L[0]? = some q:=⟨_,List.getElem?_eq_getElem (by have:=(HYO.out).2.2.1;dsimp only at this;omega)⟩;have hob:OwnB 59 2 prc W w.heap.size (some ⟨gp,0,none⟩) yv.pn yv.pc L:=⟨(HYO.out).2.2.1,by rw[← ep];exact HPR.out⟩;obtain⟨zp,fp⟩:=hob.cell prc_len (i:=0) (k:=1) (v:=.int .i64 q.2) hq0 (by omega) rfl;have zp:W.cell? ⟨gp,1,none⟩=some (.int .i64 q.2):=zp;have fp:W.frozen? ⟨gp,1,none⟩=false:=fp;have hcv:CvO w gr gc ⟨some ⟨g1,0,none⟩,D2,D3,N+1,n2,n3,d1,d2,d3,Q.set N (yv,L.set 0 (q.1,b)),C,T⟩ (W.setCell ⟨gp,1,none⟩ (.int .i64 b)):=HV.out.pset hy ep HPR.out HOTH.out (j:=0) (k:=1) (q':=(q.1,b)) hq0 (by omega) rfl;have z5:W.cell? ⟨g1,N*11+5,none⟩=some (.slice (some ⟨gp,0,none⟩) yv.pn yv.pc):=by rw[← ep];exact z5
   have hpi:((yv.pn:Int) == 0)=false:=by simp;omega
   go_upto_region 44 with fail;generalize W.setCell ⟨gp,1,none⟩ (.int .i64 b)=Wk at hcv ⊢;clear z5 zp fp m0 m1 m2 hob;have hsm:SmX (m+16) ⟨some ⟨g1,0,none⟩,D2,D3,N+1,n2,n3,d1,d2,d3,Q.set N (yv,L.set 0 (q.1,b)),C,T⟩:=⟨q1,by show N+1≤m+16;omega,by show n2≤m+16;omega,by show n3≤m+16;omega,fun z hz=>by
     rcases List.mem_or_eq_of_mem_set hz with hz | rfl
     ·have:=HSX.out z hz;omega
     have:=HYN.out;show yv.pn≤m+16;omega,fun z hz=>by have:=HND.out z hz;omega⟩
   obtain⟨⟨z0,z1,z2,f0,f1,f2⟩,⟨e0,e1,e2⟩,hfin⟩:=hcv.fin hsm;have E0:=hid e0;have E1:=hid e1;have E2:=hid e2;have HFIN:=hid hfin
   obtain⟨m0,m1,m2⟩:=hcv.s.cells;dsimp only at z0 z1 z2 f0 f1 f2 m0 m1 m2 E0 E1 E2 HFIN;clear e0 e1 e2 hfin hcv hsm;go_wp2_with fail;exact bodyPost_ret (results_runC rfl rfl E0.out E1.out E2.out) rfl HFIN.out
  ·have hcv:CvO w gr gc ⟨some ⟨g1,0,none⟩,D2,D3,N+1,n2,n3,d1,d2,d3,Q.set N (({ yv with pa:=none,pn:=0,pc:=0 },[])),C,T⟩ (W.setCell ⟨g1,N*11+5,none⟩ (.slice none 0 0)):=HV.out.part hy (k:=5) (y:=({ yv with pa:=none,pn:=0,pc:=0 },[])) (v:=.slice none 0 0) (by omega) rfl (OwnV.nil _ _ _ _) ⟨(HYO.out).1,(HYO.out).2.1,rfl,by show 0*16≤_;omega⟩;obtain⟨zc,fc⟩:=HV.out.s.pp.cell pcq_len (i:=N) (k:=5) (v:=.slice yv.pa yv.pn yv.pc) hy (by omega) rfl;have zc:W.cell? ⟨g1,N*11+5,none⟩=some (.slice yv.pa yv.pn yv.pc):=zc;have fc:W.frozen? ⟨g1,N*11+5,none⟩=false:=fc;go_upto_region 44 with fail;generalize W.setCell ⟨g1,N*11+5,none⟩ (.slice none 0 0)=Wk at hcv ⊢;clear zc fc m0 m1 m2;have hsm:SmX (m+16) ⟨some ⟨g1,0,none⟩,D2,D3,N+1,n2,n3,d1,d2,d3,Q.set N (({ yv with pa:=none,pn:=0,pc:=0 },[])),C,T⟩:=⟨q1,by show N+1≤m+16;omega,by show n2≤m+16;omega,by show n3≤m+16;omega,fun z hz=>by
     rcases List.mem_or_eq_of_mem_set hz with hz | rfl
     ·have:=HSX.out z hz;omega
     show 0≤m+16;omega,fun z hz=>by have:=HND.out z hz;omega⟩
   obtain⟨⟨z0,z1,z2,f0,f1,f2⟩,⟨e0,e1,e2⟩,hfin⟩:=hcv.fin hsm;have E0:=hid e0;have E1:=hid e1;have E2:=hid e2;have HFIN:=hid hfin
   obtain⟨m0,m1,m2⟩:=hcv.s.cells;dsimp only at z0 z1 z2 f0 f1 f2 m0 m1 m2 E0 E1 E2 HFIN;clear e0 e1 e2 hfin hcv hsm;go_wp2_with fail;exact bodyPost_ret (results_runC rfl rfl E0.out E1.out E2.out) rfl HFIN.out
  ·obtain⟨M,hM,hle⟩:=and_mask b 1 (by omega);have hM:bits .and .i64 b 1=(M:Int):=hM;rcases(by omega:M=0∨M=1) with rfl | rfl
   ·clear m0 m1 m2 z5 f5;have hQN:N < Q.length:=(List.getElem?_eq_some_iff.1 hy).1;have hset:Q.set N (yv,L)=Q:=set_self hy;have hyl:=(HYO.out).2.2.1;dsimp only at hyl;go_wp2_with fail;go_loopw [] (fun wx=>∃(A5:Option Addr) (n c5:Nat) (L5:List (Int×Int)),CvO w gr gc ⟨some ⟨g1,0,none⟩,D2,D3,N+1,n2,n3,d1,d2,d3,Q.set N (({ yv with pa:=A5,pn:=n,pc:=c5 },L5)),C,T⟩ wx∧OwnV 59 2 wx w.heap.size A5 n c5 (L5.flatMap prc)∧L5.length=n∧n≤m+16) (fun wx=>3 - lenAt wx g1 (N*11+5))
    case atStart=>exact⟨yv.pa,yv.pn,yv.pc,L,by show CvO w gr gc ⟨some ⟨g1,0,none⟩,D2,D3,N+1,n2,n3,d1,d2,d3,Q.set N (yv,L),C,T⟩ W;rw[hset];exact HV.out,HPR.out,hyl,by have:=HYN.out;omega⟩
    obtain⟨A5,n,c5,L5,hV,hP,hL,hn⟩:=hrel;have HV5:=hid hV;have hy5:(Q.set N ((({ yv with pa:=A5,pn:=n,pc:=c5 },L5)):Pq))[N]? = some (({ yv with pa:=A5,pn:=n,pc:=c5 },L5)):=List.getElem?_set_self hQN;obtain⟨m0,m1,m2⟩:=hV.s.cells;obtain⟨z5,f5⟩:=hV.s.pp.cell pcq_len (i:=N) (k:=5) (v:=.slice A5 n c5) hy5 (by omega) rfl;dsimp only at m0 m1 m2;have hl5:=lenAt_eq z5;by_cases hlt:n < 3
    ·have hli:(n:Int) < 3:=by omega
     have hbl:=bl1 wr (.cells #[.int .i64 0,.int .i64 0] 59);have hV7:=hV.on hbl;have hown:=hP.below rfl hbl;have hr2:=rdV_new wr #[.int .i64 0,.int .i64 0] 59 ([((0:Int),(0:Int))].flatMap prc) rfl;have hsz:w.heap.size≤(wr.alloc (.cells #[.int .i64 0,.int .i64 0] 59)).heap.size:=hV7.be.size;have HST:Hid (∀ A4 w4,Grew A5 A4 (wr.alloc (.cells #[.int .i64 0,.int .i64 0] 59)) w4→w4.cell? ⟨g1,N*11+5,none⟩=some (.slice A5 n c5)∧w4.frozen? ⟨g1,N*11+5,none⟩=false):=hid fun A4 w4 hg=>by
      have h:=hV7.s.pp.own.grew hown (by decide) hg;have h2:=OwnB.cell (α:=Pq) (f:=pcq) (l:=Q.set N (({ yv with pa:=A5,pn:=n,pc:=c5 },L5))) ⟨hV7.s.pp.len,h⟩ pcq_len (i:=N) (k:=5) (v:=.slice A5 n c5) hy5 (by omega) rfl;exact h2
     have HFI:Hid (∀ A4 c4 w4,OwnV 59 2 w4 w.heap.size A4 (n+1) c4 ((L5++[((0:Int),(0:Int))]).flatMap prc)→Below w.heap.size (wr.alloc (.cells #[.int .i64 0,.int .i64 0] 59)) w4→Grew A5 A4 (wr.alloc (.cells #[.int .i64 0,.int .i64 0] 59)) w4→CvO w gr gc ⟨some ⟨g1,0,none⟩,D2,D3,N+1,n2,n3,d1,d2,d3,Q.set N (({ yv with pa:=A4,pn:=n+1,pc:=c4 },L5++[((0:Int),(0:Int))])),C,T⟩ (w4.setCell ⟨g1,N*11+5,none⟩ (.slice A4 (n+1:Nat) c4))∧OwnV 59 2 (w4.setCell ⟨g1,N*11+5,none⟩ (.slice A4 (n+1:Nat) c4)) w.heap.size A4 (n+1) c4 ((L5++[((0:Int),(0:Int))]).flatMap prc)):=hid fun A4 c4 w4 ho hb hg=>by
      have h:=hV7.procs hy5 hown (fun j z hz hj=>by rw[List.getElem?_set_ne (Ne.symm hj)] at hz;exact HOTH.out j z hz hj) hb hg (L':=L5++[((0:Int),(0:Int))]) ho (by rw[List.length_append,hL];rfl) (by show (n+1)*16≤_;omega);rw[List.set_set] at h;exact⟨h,ho.other _ _ (ho.ne' (hV7.s.pp.own.grew hown (by decide) hg) (by decide))⟩
     clear hV7 hbl hV hP;go_wp2_with (at_builtin;go_loud (refine wpList_appX elPc rfl (.tmp 163) (.tmp 165) rfl rfl w.heap.size A5 n c5 _ rfl hown _ 1 1 _ _ rfl hr2 rfl Nat.one_pos (prc_one _) (by omega) (by unfold maxLen;omega) hsz (n+1) rfl ((L5++[((0:Int),(0:Int))]).flatMap prc) (by rw[List.flatMap_append]) ?_;intro A4 c4 w4 hw4 hb4 hg4;obtain⟨s0,s1⟩:=HST.out A4 w4 hg4));obtain⟨hcv,hpo⟩:=HFI.out A4 c4 w4 hw4 hb4 hg4;clear s0 s1 hw4 hb4 hg4 HST HFI hown hr2 hsz m0 m1 m2 z5 f5;generalize w4.setCell ⟨g1,N*11+5,none⟩ (.slice A4 (n+1:Nat) c4)=Wk at hcv hpo ⊢;have hl6:=lenAt_eq (hcv.s.pp.cell pcq_len (i:=N) (k:=5) (v:=.slice A4 (n+1:Nat) c4) (List.getElem?_set_self hQN) (by omega) rfl).1;go_roundw
     case rel=>exact⟨A4,n+1,c4,L5++[((0:Int),(0:Int))],hcv,hpo,by rw[List.length_append,hL];rfl,by omega⟩
     rw[hl5,hl6];omega
    have hli:¬ (n:Int) < 3:=by omega
    have hcv:=HV5.out;clear m0 m1 m2 hV hP;have hsm:SmX (m+16) ⟨some ⟨g1,0,none⟩,D2,D3,N+1,n2,n3,d1,d2,d3,Q.set N (({ yv with pa:=A5,pn:=n,pc:=c5 },L5)),C,T⟩:=⟨q1,by show N+1≤m+16;omega,by show n2≤m+16;omega,by show n3≤m+16;omega,fun z hz=>by
      rcases List.mem_or_eq_of_mem_set hz with hz | rfl
      ·have:=HSX.out z hz;omega
      show n≤m+16;omega,fun z hz=>by have:=HND.out z hz;omega⟩
    obtain⟨⟨z0,z1,z2,f0,f1,f2⟩,⟨e0,e1,e2⟩,hfin⟩:=hcv.fin hsm;have E0:=hid e0;have E1:=hid e1;have E2:=hid e2;have HFIN:=hid hfin
    obtain⟨m0,m1,m2⟩:=hcv.s.cells;dsimp only at z0 z1 z2 f0 f1 f2 m0 m1 m2 E0 E1 E2 HFIN;clear e0 e1 e2 hfin hcv hsm;go_wp2_with fail;exact bodyPost_ret (results_runC rfl rfl E0.out E1.out E2.out) rfl HFIN.out
   clear m0 m1 m2 z5 f5;have hQN:N < Q.length:=(List.getElem?_eq_some_iff.1 hy).1;have hset:Q.set N (yv,L)=Q:=set_self hy;have hyl:=(HYO.out).2.2.1;dsimp only at hyl;go_wp2_with fail;go_loopw [] (fun wx=>∃(A5:Option Addr) (n c5:Nat) (L5:List (Int×Int)),CvO w gr gc ⟨some ⟨g1,0,none⟩,D2,D3,N+1,n2,n3,d1,d2,d3,Q.set N (({ yv with pa:=A5,pn:=n,pc:=c5 },L5)),C,T⟩ wx∧OwnV 59 2 wx w.heap.size A5 n c5 (L5.flatMap prc)∧L5.length=n∧n≤m+16) (fun wx=>4 - lenAt wx g1 (N*11+5))
   case atStart=>exact⟨yv.pa,yv.pn,yv.pc,L,by show CvO w gr gc ⟨some ⟨g1,0,none⟩,D2,D3,N+1,n2,n3,d1,d2,d3,Q.set N (yv,L),C,T⟩ W;rw[hset];exact HV.out,HPR.out,hyl,by have:=HYN.out;omega⟩
   obtain⟨A5,n,c5,L5,hV,hP,hL,hn⟩:=hrel;have HV5:=hid hV;have hy5:(Q.set N ((({ yv with pa:=A5,pn:=n,pc:=c5 },L5)):Pq))[N]? = some (({ yv with pa:=A5,pn:=n,pc:=c5 },L5)):=List.getElem?_set_self hQN;obtain⟨m0,m1,m2⟩:=hV.s.cells;obtain⟨z5,f5⟩:=hV.s.pp.cell pcq_len (i:=N) (k:=5) (v:=.slice A5 n c5) hy5 (by omega) rfl;dsimp only at m0 m1 m2;have hl5:=lenAt_eq z5;by_cases hlt:n < 4
   ·have hli:(n:Int) < 4:=by omega
    have hbl:=bl1 wr (.cells #[.int .i64 0,.int .i64 0] 59);have hV7:=hV.on hbl;have hown:=hP.below rfl hbl;have hr2:=rdV_new wr #[.int .i64 0,.int .i64 0] 59 ([((0:Int),(0:Int))].flatMap prc) rfl;have hsz:w.heap.size≤(wr.alloc (.cells #[.int .i64 0,.int .i64 0] 59)).heap.size:=hV7.be.size;have HST:Hid (∀ A4 w4,Grew A5 A4 (wr.alloc (.cells #[.int .i64 0,.int .i64 0] 59)) w4→w4.cell? ⟨g1,N*11+5,none⟩=some (.slice A5 n c5)∧w4.frozen? ⟨g1,N*11+5,none⟩=false):=hid fun A4 w4 hg=>by
     have h:=hV7.s.pp.own.grew hown (by decide) hg;have h2:=OwnB.cell (α:=Pq) (f:=pcq) (l:=Q.set N (({ yv with pa:=A5,pn:=n,pc:=c5 },L5))) ⟨hV7.s.pp.len,h⟩ pcq_len (i:=N) (k:=5) (v:=.slice A5 n c5) hy5 (by omega) rfl;exact h2
    have HFI:Hid (∀ A4 c4 w4,OwnV 59 2 w4 w.heap.size A4 (n+1) c4 ((L5++[((0:Int),(0:Int))]).flatMap prc)→Below w.heap.size (wr.alloc (.cells #[.int .i64 0,.int .i64 0] 59)) w4→Grew A5 A4 (wr.alloc (.cells #[.int .i64 0,.int .i64 0] 59)) w4→CvO w gr gc ⟨some ⟨g1,0,none⟩,D2,D3,N+1,n2,n3,d1,d2,d3,Q.set N (({ yv with pa:=A4,pn:=n+1,pc:=c4 },L5++[((0:Int),(0:Int))])),C,T⟩ (w4.setCell ⟨g1,N*11+5,none⟩ (.slice A4 (n+1:Nat) c4))∧OwnV 59 2 (w4.setCell ⟨g1,N*11+5,none⟩ (.slice A4 (n+1:Nat) c4)) w.heap.size A4 (n+1) c4 ((L5++[((0:Int),(0:Int))]).flatMap prc)):=hid fun A4 c4 w4 ho hb hg=>by
     have h:=hV7.procs hy5 hown (fun j z hz hj=>by rw[List.getElem?_set_ne (Ne.symm hj)] at hz;exact HOTH.out j z hz hj) hb hg (L':=L5++[((0:Int),(0:Int))]) ho (by rw[List.length_append,hL];rfl) (by show (n+1)*16≤_;omega);rw[List.set_set] at h;exact⟨h,ho.other _ _ (ho.ne' (hV7.s.pp.own.grew hown (by decide) hg) (by decide))⟩
    clear hV7 hbl hV hP;go_wp2_with (at_builtin;go_loud (refine wpList_appX elPc rfl (.tmp 163) (.tmp 165) rfl rfl w.heap.size A5 n c5 _ rfl hown _ 1 1 _ _ rfl hr2 rfl Nat.one_pos (prc_one _) (by omega) (by unfold maxLen;omega) hsz (n+1) rfl ((L5++[((0:Int),(0:Int))]).flatMap prc) (by rw[List.flatMap_append]) ?_;intro A4 c4 w4 hw4 hb4 hg4;obtain⟨s0,s1⟩:=HST.out A4 w4 hg4));obtain⟨hcv,hpo⟩:=HFI.out A4 c4 w4 hw4 hb4 hg4;clear s0 s1 hw4 hb4 hg4 HST HFI hown hr2 hsz m0 m1 m2 z5 f5;generalize w4.setCell ⟨g1,N*11+5,none⟩ (.slice A4 (n+1:Nat) c4)=Wk at hcv hpo ⊢;have hl6:=lenAt_eq (hcv.s.pp.cell pcq_len (i:=N) (k:=5) (v:=.slice A4 (n+1:Nat) c4) (List.getElem?_set_self hQN) (by omega) rfl).1;go_roundw
    case rel=>exact⟨A4,n+1,c4,L5++[((0:Int),(0:Int))],hcv,hpo,by rw[List.length_append,hL];rfl,by omega⟩
    rw[hl5,hl6];omega
   have hli:¬ (n:Int) < 4:=by omega
   have hcv:=HV5.out;clear m0 m1 m2 hV hP;have hsm:SmX (m+16) ⟨some ⟨g1,0,none⟩,D2,D3,N+1,n2,n3,d1,d2,d3,Q.set N (({ yv with pa:=A5,pn:=n,pc:=c5 },L5)),C,T⟩:=⟨q1,by show N+1≤m+16;omega,by show n2≤m+16;omega,by show n3≤m+16;omega,fun z hz=>by
     rcases List.mem_or_eq_of_mem_set hz with hz | rfl
     ·have:=HSX.out z hz;omega
     show n≤m+16;omega,fun z hz=>by have:=HND.out z hz;omega⟩
   obtain⟨⟨z0,z1,z2,f0,f1,f2⟩,⟨e0,e1,e2⟩,hfin⟩:=hcv.fin hsm;have E0:=hid e0;have E1:=hid e1;have E2:=hid e2;have HFIN:=hid hfin
   obtain⟨m0,m1,m2⟩:=hcv.s.cells;dsimp only at z0 z1 z2 f0 f1 f2 m0 m1 m2 E0 E1 E2 HFIN;clear e0 e1 e2 hfin hcv hsm;go_wp2_with fail;exact bodyPost_ret (results_runC rfl rfl E0.out E1.out E2.out) rfl HFIN.out
  ·obtain⟨M,hM,hle⟩:=and_mask b 1 (by omega);have hM:bits .and .i64 b 1=(M:Int):=hM;rcases(by omega:M=0∨M=1) with rfl | rfl
   ·have hbl:=bl1 W (.cells #[.int .i64 b,.int .i64 0,.bool true,.int .i64 1,.int .u32 0,.int .i64 0] 63);have hV7:=HV.out.on hbl;have hown:=hV7.s.ch.own;have hr2:=rdV_new W #[.int .i64 b,.int .i64 0,.bool true,.int .i64 1,.int .u32 0,.int .i64 0] 63 ([(⟨b,0,true,1,0,0⟩:ChV)].flatMap cc) rfl;have hsz:w.heap.size≤(W.alloc (.cells #[.int .i64 b,.int .i64 0,.bool true,.int .i64 1,.int .u32 0,.int .i64 0] 63)).heap.size:=hV7.be.size;have HST:Hid (∀ A4 w4,Grew D2 A4 (W.alloc (.cells #[.int .i64 b,.int .i64 0,.bool true,.int .i64 1,.int .u32 0,.int .i64 0] 63)) w4→w4.cell? ⟨gc,1,none⟩=some (.slice D2 n2 d2)∧w4.frozen? ⟨gc,1,none⟩=false):=hid fun A4 w4 hg=>by
     have h:=hV7.s.cf.grew hV7.s.ch.own (by decide) hg;exact⟨World.ownsRow.cellAt h 1 (by omega),World.ownsRow.frozenAt h 1⟩
    have HFI:Hid (∀ A4 c4 w4,OwnV 63 6 w4 w.heap.size A4 (n2+1) c4 ((C++[(⟨b,0,true,1,0,0⟩:ChV)]).flatMap cc)→Below w.heap.size (W.alloc (.cells #[.int .i64 b,.int .i64 0,.bool true,.int .i64 1,.int .u32 0,.int .i64 0] 63)) w4→Grew D2 A4 (W.alloc (.cells #[.int .i64 b,.int .i64 0,.bool true,.int .i64 1,.int .u32 0,.int .i64 0] 63)) w4→CvO w gr gc ⟨some ⟨g1,0,none⟩,A4,D3,N+1,n2+1,n3,d1,c4,d3,Q,C++[(⟨b,0,true,1,0,0⟩:ChV)],T⟩ (w4.setCell ⟨gc,1,none⟩ (.slice A4 (n2+1:Nat) c4))):=hid fun A4 c4 w4 ho hb hg=>hV7.chan hb hg ho (by omega);clear hV7 hbl;go_upto_region 44 with (at_builtin;go_loud (refine wpList_appX elCh rfl (.tmp 172) (.tmp 181) rfl rfl w.heap.size D2 n2 d2 _ rfl hown _ 1 1 _ _ rfl hr2 rfl Nat.one_pos (cc_one _) (by omega) (by unfold maxLen;omega) hsz (n2+1) rfl ((C++[(⟨b,0,true,1,0,0⟩:ChV)]).flatMap cc) (by rw[List.flatMap_append]) ?_;intro A4 c4 w4 hw4 hb4 hg4;obtain⟨s0,s1⟩:=HST.out A4 w4 hg4));have hcv:=HFI.out A4 c4 w4 hw4 hb4 hg4;clear s0 s1 hw4 hb4 hg4 HST HFI hown hr2 hsz m0 m1 m2;generalize w4.setCell ⟨gc,1,none⟩ (.slice A4 (n2+1:Nat) c4)=Wk at hcv ⊢;have hsm:SmX (m+16) ⟨some ⟨g1,0,none⟩,A4,D3,N+1,n2+1,n3,d1,c4,d3,Q,C++[(⟨b,0,true,1,0,0⟩:ChV)],T⟩:=⟨q1,by show N+1≤m+16;omega,by show n2+1≤m+16;omega,by show n3≤m+16;omega,fun z hz=>by have:=HSX.out z hz;omega,fun z hz=>by have:=HND.out z hz;omega⟩;obtain⟨⟨z0,z1,z2,f0,f1,f2⟩,⟨e0,e1,e2⟩,hfin⟩:=hcv.fin hsm;have E0:=hid e0;have E1:=hid e1;have E2:=hid e2;have HFIN:=hid hfin
    obtain⟨m0,m1,m2⟩:=hcv.s.cells;dsimp only at z0 z1 z2 f0 f1 f2 m0 m1 m2 E0 E1 E2 HFIN;clear e0 e1 e2 hfin hcv hsm;go_wp2_with fail;exact bodyPost_ret (results_runC rfl rfl E0.out E1.out E2.out) rfl HFIN.out
   have hbl:=bl1 W (.cells #[.int .i64 b,.int .i64 0,.bool false,.int .i64 0,.int .u32 0,.int .i64 0] 63);have hV7:=HV.out.on hbl;have hown:=hV7.s.ch.own;have hr2:=rdV_new W #[.int .i64 b,.int .i64 0,.bool false,.int .i64 0,.int .u32 0,.int .i64 0] 63 ([(⟨b,0,false,0,0,0⟩:ChV)].flatMap cc) rfl;have hsz:w.heap.size≤(W.alloc (.cells #[.int .i64 b,.int .i64 0,.bool false,.int .i64 0,.int .u32 0,.int .i64 0] 63)).heap.size:=hV7.be.size;have HST:Hid (∀ A4 w4,Grew D2 A4 (W.alloc (.cells #[.int .i64 b,.int .i64 0,.bool false,.int .i64 0,.int .u32 0,.int .i64 0] 63)) w4→w4.cell? ⟨gc,1,none⟩=some (.slice D2 n2 d2)∧w4.frozen? ⟨gc,1,none⟩=false):=hid fun A4 w4 hg=>by
    have h:=hV7.s.cf.grew hV7.s.ch.own (by decide) hg;exact⟨World.ownsRow.cellAt h 1 (by omega),World.ownsRow.frozenAt h 1⟩
   have HFI:Hid (∀ A4 c4 w4,OwnV 63 6 w4 w.heap.size A4 (n2+1) c4 ((C++[(⟨b,0,false,0,0,0⟩:ChV)]).flatMap cc)→Below w.heap.size (W.alloc (.cells #[.int .i64 b,.int .i64 0,.bool false,.int .i64 0,.int .u32 0,.int .i64 0] 63)) w4→Grew D2 A4 (W.alloc (.cells #[.int .i64 b,.int .i64 0,.bool false,.int .i64 0,.int .u32 0,.int .i64 0] 63)) w4→CvO w gr gc ⟨some ⟨g1,0,none⟩,A4,D3,N+1,n2+1,n3,d1,c4,d3,Q,C++[(⟨b,0,false,0,0,0⟩:ChV)],T⟩ (w4.setCell ⟨gc,1,none⟩ (.slice A4 (n2+1:Nat) c4))):=hid fun A4 c4 w4 ho hb hg=>hV7.chan hb hg ho (by omega);clear hV7 hbl;go_upto_region 44 with (at_builtin;go_loud (refine wpList_appX elCh rfl (.tmp 172) (.tmp 181) rfl rfl w.heap.size D2 n2 d2 _ rfl hown _ 1 1 _ _ rfl hr2 rfl Nat.one_pos (cc_one _) (by omega) (by unfold maxLen;omega) hsz (n2+1) rfl ((C++[(⟨b,0,false,0,0,0⟩:ChV)]).flatMap cc) (by rw[List.flatMap_append]) ?_;intro A4 c4 w4 hw4 hb4 hg4;obtain⟨s0,s1⟩:=HST.out A4 w4 hg4));have hcv:=HFI.out A4 c4 w4 hw4 hb4 hg4;clear s0 s1 hw4 hb4 hg4 HST HFI hown hr2 hsz m0 m1 m2;generalize w4.setCell ⟨gc,1,none⟩ (.slice A4 (n2+1:Nat) c4)=Wk at hcv ⊢;have hsm:SmX (m+16) ⟨some ⟨g1,0,none⟩,A4,D3,N+1,n2+1,n3,d1,c4,d3,Q,C++[(⟨b,0,false,0,0,0⟩:ChV)],T⟩:=⟨q1,by show N+1≤m+16;omega,by show n2+1≤m+16;omega,by show n3≤m+16;omega,fun z hz=>by have:=HSX.out z hz;omega,fun z hz=>by have:=HND.out z hz;omega⟩;obtain⟨⟨z0,z1,z2,f0,f1,f2⟩,⟨e0,e1,e2⟩,hfin⟩:=hcv.fin hsm;have E0:=hid e0;have E1:=hid e1;have E2:=hid e2;have HFIN:=hid hfin
   obtain⟨m0,m1,m2⟩:=hcv.s.cells;dsimp only at z0 z1 z2 f0 f1 f2 m0 m1 m2 E0 E1 E2 HFIN;clear e0 e1 e2 hfin hcv hsm;go_wp2_with fail;exact bodyPost_ret (results_runC rfl rfl E0.out E1.out E2.out) rfl HFIN.out
  ·obtain⟨M,hM,hle⟩:=and_mask b 1 (by omega);have hM:bits .and .i64 b 1=(M:Int):=hM;rcases(by omega:M=0∨M=1) with rfl | rfl
   ·have hbl:=bl1 W (.cells #[.int .i64 0,.int .i64 (N:Int),.bool true,.int .i64 b,.int .u32 0,.int .i64 0] 63);have hV7:=HV.out.on hbl;have hown:=hV7.s.ch.own;have hr2:=rdV_new W #[.int .i64 0,.int .i64 (N:Int),.bool true,.int .i64 b,.int .u32 0,.int .i64 0] 63 ([(⟨0,(N:Int),true,b,0,0⟩:ChV)].flatMap cc) rfl;have hsz:w.heap.size≤(W.alloc (.cells #[.int .i64 0,.int .i64 (N:Int),.bool true,.int .i64 b,.int .u32 0,.int .i64 0] 63)).heap.size:=hV7.be.size;have HST:Hid (∀ A4 w4,Grew D2 A4 (W.alloc (.cells #[.int .i64 0,.int .i64 (N:Int),.bool true,.int .i64 b,.int .u32 0,.int .i64 0] 63)) w4→w4.cell? ⟨gc,1,none⟩=some (.slice D2 n2 d2)∧w4.frozen? ⟨gc,1,none⟩=false):=hid fun A4 w4 hg=>by
     have h:=hV7.s.cf.grew hV7.s.ch.own (by decide) hg;exact⟨World.ownsRow.cellAt h 1 (by omega),World.ownsRow.frozenAt h 1⟩
    have HFI:Hid (∀ A4 c4 w4,OwnV 63 6 w4 w.heap.size A4 (n2+1) c4 ((C++[(⟨0,(N:Int),true,b,0,0⟩:ChV)]).flatMap cc)→Below w.heap.size (W.alloc (.cells #[.int .i64 0,.int .i64 (N:Int),.bool true,.int .i64 b,.int .u32 0,.int .i64 0] 63)) w4→Grew D2 A4 (W.alloc (.cells #[.int .i64 0,.int .i64 (N:Int),.bool true,.int .i64 b,.int .u32 0,.int .i64 0] 63)) w4→CvO w gr gc ⟨some ⟨g1,0,none⟩,A4,D3,N+1,n2+1,n3,d1,c4,d3,Q,C++[(⟨0,(N:Int),true,b,0,0⟩:ChV)],T⟩ (w4.setCell ⟨gc,1,none⟩ (.slice A4 (n2+1:Nat) c4))):=hid fun A4 c4 w4 ho hb hg=>hV7.chan hb hg ho (by omega);clear hV7 hbl;go_upto_region 44 with (at_builtin;go_loud (refine wpList_appX elCh rfl (.tmp 187) (.tmp 197) rfl rfl w.heap.size D2 n2 d2 _ rfl hown _ 1 1 _ _ rfl hr2 rfl Nat.one_pos (cc_one _) (by omega) (by unfold maxLen;omega) hsz (n2+1) rfl ((C++[(⟨0,(N:Int),true,b,0,0⟩:ChV)]).flatMap cc) (by rw[List.flatMap_append]) ?_;intro A4 c4 w4 hw4 hb4 hg4;obtain⟨s0,s1⟩:=HST.out A4 w4 hg4));have hcv:=HFI.out A4 c4 w4 hw4 hb4 hg4;clear s0 s1 hw4 hb4 hg4 HST HFI hown hr2 hsz m0 m1 m2;generalize w4.setCell ⟨gc,1,none⟩ (.slice A4 (n2+1:Nat) c4)=Wk at hcv ⊢;have hsm:SmX (m+16) ⟨some ⟨g1,0,none⟩,A4,D3,N+1,n2+1,n3,d1,c4,d3,Q,C++[(⟨0,(N:Int),true,b,0,0⟩:ChV)],T⟩:=⟨q1,by show N+1≤m+16;omega,by show n2+1≤m+16;omega,by show n3≤m+16;omega,fun z hz=>by have:=HSX.out z hz;omega,fun z hz=>by have:=HND.out z hz;omega⟩;obtain⟨⟨z0,z1,z2,f0,f1,f2⟩,⟨e0,e1,e2⟩,hfin⟩:=hcv.fin hsm;have E0:=hid e0;have E1:=hid e1;have E2:=hid e2;have HFIN:=hid hfin
    obtain⟨m0,m1,m2⟩:=hcv.s.cells;dsimp only at z0 z1 z2 f0 f1 f2 m0 m1 m2 E0 E1 E2 HFIN;clear e0 e1 e2 hfin hcv hsm;go_wp2_with fail;exact bodyPost_ret (results_runC rfl rfl E0.out E1.out E2.out) rfl HFIN.out
   have hbl:=bl1 W (.cells #[.int .i64 0,.int .i64 (N:Int),.bool false,.int .i64 b,.int .u32 0,.int .i64 0] 63);have hV7:=HV.out.on hbl;have hown:=hV7.s.ch.own;have hr2:=rdV_new W #[.int .i64 0,.int .i64 (N:Int),.bool false,.int .i64 b,.int .u32 0,.int .i64 0] 63 ([(⟨0,(N:Int),false,b,0,0⟩:ChV)].flatMap cc) rfl;have hsz:w.heap.size≤(W.alloc (.cells #[.int .i64 0,.int .i64 (N:Int),.bool false,.int .i64 b,.int .u32 0,.int .i64 0] 63)).heap.size:=hV7.be.size;have HST:Hid (∀ A4 w4,Grew D2 A4 (W.alloc (.cells #[.int .i64 0,.int .i64 (N:Int),.bool false,.int .i64 b,.int .u32 0,.int .i64 0] 63)) w4→w4.cell? ⟨gc,1,none⟩=some (.slice D2 n2 d2)∧w4.frozen? ⟨gc,1,none⟩=false):=hid fun A4 w4 hg=>by
    have h:=hV7.s.cf.grew hV7.s.ch.own (by decide) hg;exact⟨World.ownsRow.cellAt h 1 (by omega),World.ownsRow.frozenAt h 1⟩
   have HFI:Hid (∀ A4 c4 w4,OwnV 63 6 w4 w.heap.size A4 (n2+1) c4 ((C++[(⟨0,(N:Int),false,b,0,0⟩:ChV)]).flatMap cc)→Below w.heap.size (W.alloc (.cells #[.int .i64 0,.int .i64 (N:Int),.bool false,.int .i64 b,.int .u32 0,.int .i64 0] 63)) w4→Grew D2 A4 (W.alloc (.cells #[.int .i64 0,.int .i64 (N:Int),.bool false,.int .i64 b,.int .u32 0,.int .i64 0] 63)) w4→CvO w gr gc ⟨some ⟨g1,0,none⟩,A4,D3,N+1,n2+1,n3,d1,c4,d3,Q,C++[(⟨0,(N:Int),false,b,0,0⟩:ChV)],T⟩ (w4.setCell ⟨gc,1,none⟩ (.slice A4 (n2+1:Nat) c4))):=hid fun A4 c4 w4 ho hb hg=>hV7.chan hb hg ho (by omega);clear hV7 hbl;go_upto_region 44 with (at_builtin;go_loud (refine wpList_appX elCh rfl (.tmp 187) (.tmp 197) rfl rfl w.heap.size D2 n2 d2 _ rfl hown _ 1 1 _ _ rfl hr2 rfl Nat.one_pos (cc_one _) (by omega) (by unfold maxLen;omega) hsz (n2+1) rfl ((C++[(⟨0,(N:Int),false,b,0,0⟩:ChV)]).flatMap cc) (by rw[List.flatMap_append]) ?_;intro A4 c4 w4 hw4 hb4 hg4;obtain⟨s0,s1⟩:=HST.out A4 w4 hg4));have hcv:=HFI.out A4 c4 w4 hw4 hb4 hg4;clear s0 s1 hw4 hb4 hg4 HST HFI hown hr2 hsz m0 m1 m2;generalize w4.setCell ⟨gc,1,none⟩ (.slice A4 (n2+1:Nat) c4)=Wk at hcv ⊢;have hsm:SmX (m+16) ⟨some ⟨g1,0,none⟩,A4,D3,N+1,n2+1,n3,d1,c4,d3,Q,C++[(⟨0,(N:Int),false,b,0,0⟩:ChV)],T⟩:=⟨q1,by show N+1≤m+16;omega,by show n2+1≤m+16;omega,by show n3≤m+16;omega,fun z hz=>by have:=HSX.out z hz;omega,fun z hz=>by have:=HND.out z hz;omega⟩;obtain⟨⟨z0,z1,z2,f0,f1,f2⟩,⟨e0,e1,e2⟩,hfin⟩:=hcv.fin hsm;have E0:=hid e0;have E1:=hid e1;have E2:=hid e2;have HFIN:=hid hfin
   obtain⟨m0,m1,m2⟩:=hcv.s.cells;dsimp only at z0 z1 z2 f0 f1 f2 m0 m1 m2 E0 E1 E2 HFIN;clear e0 e1 e2 hfin hcv hsm;go_wp2_with fail;exact bodyPost_ret (results_runC rfl rfl E0.out E1.out E2.out) rfl HFIN.out
  ·have hbl:=bl1 W (.cells #[.int .i64 (N:Int),.int .i64 0,.bool false,.int .i64 0,.int .u32 0,.int .i64 b] 63);have hV7:=HV.out.on hbl;have hown:=hV7.s.ch.own;have hr2:=rdV_new W #[.int .i64 (N:Int),.int .i64 0,.bool false,.int .i64 0,.int .u32 0,.int .i64 b] 63 ([(⟨(N:Int),0,false,0,0,b⟩:ChV)].flatMap cc) rfl;have hsz:w.heap.size≤(W.alloc (.cells #[.int .i64 (N:Int),.int .i64 0,.bool false,.int .i64 0,.int .u32 0,.int .i64 b] 63)).heap.size:=hV7.be.size;have HST:Hid (∀ A4 w4,Grew D2 A4 (W.alloc (.cells #[.int .i64 (N:Int),.int .i64 0,.bool false,.int .i64 0,.int .u32 0,.int .i64 b] 63)) w4→w4.cell? ⟨gc,1,none⟩=some (.slice D2 n2 d2)∧w4.frozen? ⟨gc,1,none⟩=false):=hid fun A4 w4 hg=>by
    have h:=hV7.s.cf.grew hV7.s.ch.own (by decide) hg;exact⟨World.ownsRow.cellAt h 1 (by omega),World.ownsRow.frozenAt h 1⟩
   have HFI:Hid (∀ A4 c4 w4,OwnV 63 6 w4 w.heap.size A4 (n2+1) c4 ((C++[(⟨(N:Int),0,false,0,0,b⟩:ChV)]).flatMap cc)→Below w.heap.size (W.alloc (.cells #[.int .i64 (N:Int),.int .i64 0,.bool false,.int .i64 0,.int .u32 0,.int .i64 b] 63)) w4→Grew D2 A4 (W.alloc (.cells #[.int .i64 (N:Int),.int .i64 0,.bool false,.int .i64 0,.int .u32 0,.int .i64 b] 63)) w4→CvO w gr gc ⟨some ⟨g1,0,none⟩,A4,D3,N+1,n2+1,n3,d1,c4,d3,Q,C++[(⟨(N:Int),0,false,0,0,b⟩:ChV)],T⟩ (w4.setCell ⟨gc,1,none⟩ (.slice A4 (n2+1:Nat) c4))):=hid fun A4 c4 w4 ho hb hg=>hV7.chan hb hg ho (by omega);clear hV7 hbl;go_upto_region 44 with (at_builtin;go_loud (refine wpList_appX elCh rfl (.tmp 203) (.tmp 210) rfl rfl w.heap.size D2 n2 d2 _ rfl hown _ 1 1 _ _ rfl hr2 rfl Nat.one_pos (cc_one _) (by omega) (by unfold maxLen;omega) hsz (n2+1) rfl ((C++[(⟨(N:Int),0,false,0,0,b⟩:ChV)]).flatMap cc) (by rw[List.flatMap_append]) ?_;intro A4 c4 w4 hw4 hb4 hg4;obtain⟨s0,s1⟩:=HST.out A4 w4 hg4));have hcv:=HFI.out A4 c4 w4 hw4 hb4 hg4;clear s0 s1 hw4 hb4 hg4 HST HFI hown hr2 hsz m0 m1 m2;generalize w4.setCell ⟨gc,1,none⟩ (.slice A4 (n2+1:Nat) c4)=Wk at hcv ⊢;have hsm:SmX (m+16) ⟨some ⟨g1,0,none⟩,A4,D3,N+1,n2+1,n3,d1,c4,d3,Q,C++[(⟨(N:Int),0,false,0,0,b⟩:ChV)],T⟩:=⟨q1,by show N+1≤m+16;omega,by show n2+1≤m+16;omega,by show n3≤m+16;omega,fun z hz=>by have:=HSX.out z hz;omega,fun z hz=>by have:=HND.out z hz;omega⟩;obtain⟨⟨z0,z1,z2,f0,f1,f2⟩,⟨e0,e1,e2⟩,hfin⟩:=hcv.fin hsm;have E0:=hid e0;have E1:=hid e1;have E2:=hid e2;have HFIN:=hid hfin
   obtain⟨m0,m1,m2⟩:=hcv.s.cells;dsimp only at z0 z1 z2 f0 f1 f2 m0 m1 m2 E0 E1 E2 HFIN;clear e0 e1 e2 hfin hcv hsm;go_wp2_with fail;exact bodyPost_ret (results_runC rfl rfl E0.out E1.out E2.out) rfl HFIN.out
  ·have hn3:0 < n3:=by
    rcases hq2 with h | ⟨h,_⟩
    ·have:((n3:Int) == 0)=false:=h;rcases Nat.eq_zero_or_pos n3 with h0 | h0
     ·rw[h0] at this;cases this
     exact h0
    cases h
   obtain⟨g3,e3,hBg3,hg3⟩:=HV.out.s.tb.block (by show 0 < n3;omega);have e3:D3=some ⟨g3,0,none⟩:=e3;subst e3;obtain⟨t0,ht0⟩:∃ t0,T[0]? = some t0:=⟨_,List.getElem?_eq_getElem (by have:=HV.out.ok.l3;dsimp only at this;omega)⟩;have htm:=List.mem_of_getElem? ht0;have hok0:=HV.out.ok.tt t0 htm;have hnd0:=HND.out t0 htm;obtain⟨zt,ft⟩:=HV.out.s.tb.cell tcn_len (i:=0) (k:=0) (v:=.slice t0.A t0.n t0.c) ht0 (by omega) rfl;have zt:W.cell? ⟨g3,0,none⟩=some (.slice t0.A t0.n t0.c):=zt;have ft:W.frozen? ⟨g3,0,none⟩=false:=ft;have hgcl:=World.block_lt_of_cell? _ _ m2;have hWB:=HV.out.be.size;have hrd0:∀ V,Below W.heap.size W V→RdV V V.heap.size t0.A (ns t0.l):=fun V hv=>by
    rcases(HV.out.on hv).tt t0 htm with k | k
    ·exact(k.1.below (HV.out.on hv).be).more (HV.out.on hv).be.size
    exact k.rd
   have HRD0:=hid hrd0;have h3i:(0:Int) < (n3:Int):=by omega
   clear hrd0;go_upto_region 36 with fail;refine Rgs.region (by kernel_rfl) (by kernel_rfl) (OxV gc g3 n3 d3 b t0) (OxW W.heap.size W b t0 (fun wz=>∃ A' c',CvO w gr gc ⟨some ⟨g1,0,none⟩,D2,some ⟨g3,0,none⟩,N+1,n2,n3,d1,d2,d3,Q,C,T.set 0 ⟨A',t0.n+1,c',t0.l++[⟨2,0,b⟩]⟩⟩ wz)) ⟨fun _=>(Below.refl _ _).drew,fun e=>absurd e (by decide),fun e=>absurd e (by decide),fun e=>absurd e (by decide),fun e=>absurd e (by decide),fun e=>absurd e (by decide),fun e=>absurd e (by decide)⟩ (Rgs.steps_of ?_) ?_
   ·refine⟨?_,?_,?_,?_,?_,?_,?_,?_,?_,?_,?_,?_,?_,?_,trivial⟩<;>intro a w1 live S E D C' h0 hk hW
    ·have e3:a.eval (.tmp 3)=.pointer (some ⟨gc,0,none⟩):=E 3 rfl;exact Rgs.va (.pointer (some ⟨gc,2,none⟩)) (hW.upd 0 215 _)
    ·have d0:_=_:=D 0 rfl _ _ rfl rfl;have l12:=Reg.not_live C' h0 (j:=12) rfl rfl;have l13:=Reg.not_live C' l12 (j:=13) rfl rfl;have hc:=((hW.on l13).cell (p:=⟨gc,2,none⟩) hgcl).trans m2;exact Rgs.va (.slice (some ⟨g3,0,none⟩) n3 d3) (hW.upd 1 216 _)
    ·have l7:=Reg.not_live C' h0 (j:=7) rfl rfl;have l11:=Reg.not_live C' l7 (j:=11) rfl rfl;have l13:=Reg.not_live C' l11 (j:=13) rfl rfl;have hb1:=bl1 w1 (.cells #[] 70);have on:=hW.on l13;have u:∀ k,k≠2→Rgs.upd live 2 k=live k:=fun k hk=>by unfold Rgs.upd;simp[hk]
     have q:∀ t,(217:Nat)≠t→(a.put (some 217) (.slice (some ⟨w1.heap.size,0,none⟩) 0 0)).eval (.tmp t)=a.eval (.tmp t):=fun t ht=>Reg.eval_other _ _ _ _ ht;have q0:(a.put (some 217) (.slice (some ⟨w1.heap.size,0,none⟩) 0 0)).eval (.tmp 217)=.slice (some ⟨w1.heap.size,0,none⟩) 0 0:=Reg.eval_same _ _ _ (by rw[S];exact(by decide:217 < 262));refine Rgs.grow rfl (Reg.wanted_free rfl) (.slice (some ⟨w1.heap.size,0,none⟩) 0 0) (w1.alloc (.cells #[] 70)) (by have c:=Reg.consts a;generalize a.eval=ρ at *;simp[execOp,go_sem,c.1,c.2,go_sem]) trivial ⟨?_,?_,?_,?_,?_,?_,?_⟩ (fun j v _ h=>h)
     ·exact fun _=>on.trans (hb1.mono on.size)
     ·rw[q0];exact fun _ _=>⟨w1.heap.size,rfl,ownV_lit w1 70 3 W.heap.size #[] 0 rfl on.size (by unfold maxLen;omega)⟩
     ·rw[u 7 (by decide)];exact fun e=>by rw[l7] at e;cases e
     ·rw[u 10 (by decide),u 11 (by decide),q 225 (by decide)];exact fun e e2=>by
       obtain⟨g,h1,h2⟩:=hW.r10 e e2;exact⟨g,h1,h2.below rfl hb1⟩
     ·rw[u 7 (by decide),u 10 (by decide),q0,q 225 (by decide)];exact fun _ _ e g g' h1 h2=>by
       obtain⟨g2,h3,h4⟩:=hW.r10 e l11;rw[h2] at h3;injection h3 with h3;injection h3 with h3;injection h3 with h3;injection h1 with h1;injection h1 with h1;injection h1 with h1;have:=(h4.obk_ge (b:=g2) rfl).2;omega
     ·rw[u 11 (by decide)];exact fun e=>by rw[l11] at e;cases e
     rw[u 13 (by decide)];exact fun e=>by rw[l13] at e;cases e
    ·have e3:a.eval (.tmp 3)=.pointer (some ⟨gc,0,none⟩):=E 3 rfl;exact Rgs.va (.pointer (some ⟨gc,2,none⟩)) (hW.upd 3 218 _)
    ·have d0:_=_:=D 3 rfl _ _ rfl rfl;have l5:=Reg.not_live C' h0 (j:=5) rfl rfl;have l6:=Reg.not_live C' l5 (j:=6) rfl rfl;have l7:=Reg.not_live C' l6 (j:=7) rfl rfl;have l11:=Reg.not_live C' l7 (j:=11) rfl rfl;have l13:=Reg.not_live C' l11 (j:=13) rfl rfl;have hc:=((hW.on l13).cell (p:=⟨gc,2,none⟩) hgcl).trans m2;exact Rgs.va (.slice (some ⟨g3,0,none⟩) n3 d3) (hW.upd 4 219 _)
    ·have d0:_=_:=D 4 rfl _ _ rfl rfl;exact Rgs.va (.pointer (some ⟨g3,0,none⟩)) (hW.upd 5 220 _)
    ·have d0:_=_:=D 5 rfl _ _ rfl rfl;have l7:=Reg.not_live C' h0 (j:=7) rfl rfl;have l11:=Reg.not_live C' l7 (j:=11) rfl rfl;have l13:=Reg.not_live C' l11 (j:=13) rfl rfl;have hc:=((hW.on l13).cell (p:=⟨g3,0,none⟩) hg3).trans zt;exact Rgs.va (.slice t0.A t0.n t0.c) (hW.upd 6 221 _)
    ·have d6:_=_:=D 6 rfl _ _ rfl rfl;have l11:=Reg.not_live C' h0 (j:=11) rfl rfl;have l13:=Reg.not_live C' l11 (j:=13) rfl rfl;have on:=hW.on l13;obtain⟨g,q2,ho⟩:=hW.r2 (hk 2 rfl) h0;have hgB:=(ho.obk_ge (b:=g) rfl);obtain⟨A',c',w',hrun,h1,h2,h3⟩:=run_appV elN w1 g (some ⟨g,0,none⟩) 0 0 [] ho.own t0.A t0.n t0.c (ns t0.l) _ (HRD0.out w1 on) (by rw[ns_length,hok0.1]) (ns_one _) (by omega) (by unfold maxLen;omega) (Nat.le_of_lt hgB.2);rw[Nat.zero_add] at hrun h1;have u:∀ k,k≠7→Rgs.upd live 7 k=live k:=fun k hk=>by unfold Rgs.upd;simp[hk]
     have q:∀ t,(222:Nat)≠t→(a.put (some 222) (.slice A' (t0.n:Nat) c')).eval (.tmp t)=a.eval (.tmp t):=fun t ht=>Reg.eval_other _ _ _ _ ht;have q0:(a.put (some 222) (.slice A' (t0.n:Nat) c')).eval (.tmp 222)=.slice A' (t0.n:Nat) c':=Reg.eval_same _ _ _ (by rw[S];exact(by decide:222 < 262));refine Rgs.grow rfl (Reg.wanted_free rfl) (.slice A' (t0.n:Nat) c') w' ?_ trivial ⟨?_,?_,?_,?_,?_,?_,?_⟩ (fun j v _ h=>h)
     ·have c:=Reg.consts a;generalize a.eval=ρ at *;simp only[execOp,resolve,invoke,builtin,Sem.run_bind,Sem.run_pure,Result.andThen_ok,List.map_toArray,List.map_cons,List.map_nil,q2,d6,hrun]
     ·exact fun _=>on.trans (h2.mono hgB.1)
     ·exact fun _ e=>absurd e (by rw[Rgs.upd_self];decide)
     ·rw[q0];exact fun _ _=>⟨A',c',rfl,h1.weak hgB.1⟩
     ·rw[u 10 (by decide),u 11 (by decide),q 225 (by decide)];exact fun e e2=>by
       obtain⟨g',k1,k2⟩:=hW.r10 e e2;have hne:=hW.ne (hk 2 rfl) h0 e g g' q2 k1;refine⟨g',k1,k2.keep' fun k hk=>?_⟩;obtain rfl:g'=k:=by injection hk
       have hlt:=(k2.obk_ge (b:=g') rfl).2;rcases Nat.lt_or_ge g' g with h | h
       ·exact h2.block g' h
       exact h3 (g+1) (fun x e=>by injection e with e;injection e with e;omega) g' (by omega) hlt
     ·exact fun _ e=>absurd e (by rw[Rgs.upd_self];decide)
     ·rw[u 11 (by decide)];exact fun e=>by rw[l11] at e;cases e
     rw[u 13 (by decide)];exact fun e=>by rw[l13] at e;cases e
    ·have e2:a.eval (.tmp 2)=.int .i64 b:=E 2 rfl;exact Rgs.va (.int .i64 b) (hW.upd 8 223 _)
    ·have d0:_=_:=D 8 rfl _ _ rfl rfl;have hbd:Tryz.prog.built 70 [(0,.int .i64 2),(2,.int .i64 b)]=some #[.int .i64 2,.int .i64 0,.int .i64 b]:=by rfl
     exact Rgs.va (.agg #[.int .i64 2,.int .i64 0,.int .i64 b]) (hW.upd 9 224 _)
    ·have d9:_=_:=D 9 rfl _ _ rfl rfl;have l11:=Reg.not_live C' h0 (j:=11) rfl rfl;have l13:=Reg.not_live C' l11 (j:=13) rfl rfl;have hb1:=bl1 w1 (.cells #[.int .i64 2,.int .i64 0,.int .i64 b] 70);have on:=hW.on l13;have u:∀ k,k≠10→Rgs.upd live 10 k=live k:=fun k hk=>by unfold Rgs.upd;simp[hk]
     have q:∀ t,(225:Nat)≠t→(a.put (some 225) (.slice (some ⟨w1.heap.size,0,none⟩) 1 1)).eval (.tmp t)=a.eval (.tmp t):=fun t ht=>Reg.eval_other _ _ _ _ ht;have q0:(a.put (some 225) (.slice (some ⟨w1.heap.size,0,none⟩) 1 1)).eval (.tmp 225)=.slice (some ⟨w1.heap.size,0,none⟩) 1 1:=Reg.eval_same _ _ _ (by rw[S];exact(by decide:225 < 262));refine Rgs.grow rfl (Reg.wanted_free rfl) (.slice (some ⟨w1.heap.size,0,none⟩) 1 1) (w1.alloc (.cells #[.int .i64 2,.int .i64 0,.int .i64 b] 70)) (by have c:=Reg.consts a;generalize a.eval=ρ at *;simp[execOp,go_sem,c.1,c.2,d9]) trivial ⟨?_,?_,?_,?_,?_,?_,?_⟩ (fun j v _ h=>h)
     ·exact fun _=>on.trans (hb1.mono on.size)
     ·rw[u 2 (by decide),u 7 (by decide),q 217 (by decide)];exact fun e e2=>by
       obtain⟨g,h1,h2⟩:=hW.r2 e e2;exact⟨g,h1,h2.below rfl hb1⟩
     ·rw[u 7 (by decide),u 11 (by decide),q 222 (by decide)];exact fun e e2=>by
       obtain⟨A',c',h1,h2⟩:=hW.r7 e e2;exact⟨A',c',h1,h2.below rfl hb1⟩
     ·rw[q0];exact fun _ _=>⟨w1.heap.size,rfl,ownV_lit w1 70 3 W.heap.size #[.int .i64 2,.int .i64 0,.int .i64 b] 1 rfl on.size (by unfold maxLen;omega)⟩
     ·rw[u 2 (by decide),u 7 (by decide),q0,q 217 (by decide)];exact fun e e7 _ g g' h1 h2=>by
       obtain⟨g2,h3,h4⟩:=hW.r2 e e7;rw[h1] at h3;injection h3 with h3;injection h3 with h3;injection h3 with h3;injection h2 with h2;injection h2 with h2;injection h2 with h2;have:=(h4.obk_ge (b:=g2) rfl).2;omega
     ·rw[u 11 (by decide)];exact fun e=>by rw[l11] at e;cases e
     rw[u 13 (by decide)];exact fun e=>by rw[l13] at e;cases e
    ·have l13:=Reg.not_live C' h0 (j:=13) rfl rfl;have on:=hW.on l13;obtain⟨A,c,q7,ho⟩:=hW.r7 (hk 7 rfl) h0;obtain⟨g,q10,hp⟩:=hW.r10 (hk 10 rfl) h0;obtain⟨A',c',w',hrun,h1,h2,h3⟩:=run_appX elN w1 W.heap.size A t0.n c (ns t0.l) ho ⟨g,0,none⟩ 1 1 (ns [⟨2,0,b⟩]) w1.heap.size hp.rd rfl Nat.one_pos (ns_one _) (by omega) (by unfold maxLen;omega) on.size;rw[← ns_append] at h1;have u:∀ k,k≠11→Rgs.upd live 11 k=live k:=fun k hk=>by unfold Rgs.upd;simp[hk]
     have q0:(a.put (some 226) (.slice A' (t0.n+1:Nat) c')).eval (.tmp 226)=.slice A' (t0.n+1:Nat) c':=Reg.eval_same _ _ _ (by rw[S];exact(by decide:226 < 262));refine Rgs.grow rfl (Reg.wanted_free rfl) (.slice A' (t0.n+1:Nat) c') w' ?_ trivial ⟨?_,?_,?_,?_,?_,?_,?_⟩ (fun j v _ h=>h)
     ·have cc:=Reg.consts a;generalize a.eval=ρ at *;simp only[execOp,resolve,invoke,builtin,Sem.run_bind,Sem.run_pure,Result.andThen_ok,List.map_toArray,List.map_cons,List.map_nil,q7,q10,hrun]
     ·exact fun _=>on.trans h2
     ·rw[u 7 (by decide)];exact fun _ e=>by rw[hk 7 rfl] at e;cases e
     ·exact fun _ e=>absurd e (by rw[Rgs.upd_self];decide)
     ·exact fun _ e=>absurd e (by rw[Rgs.upd_self];decide)
     ·rw[u 7 (by decide)];exact fun _ e=>by rw[hk 7 rfl] at e;cases e
     ·rw[q0];exact fun _ _=>⟨A',c',rfl,h1⟩
     rw[u 13 (by decide)];exact fun e=>by rw[l13] at e;cases e
    ·have d0:_=_:=D 1 rfl _ _ rfl rfl;exact Rgs.va (.pointer (some ⟨g3,0,none⟩)) (hW.upd 12 227 _)
    have d12:_=_:=D 12 rfl _ _ rfl rfl;have on:=hW.on h0;have l7':live 7=true:=C' _ _ rfl (hk 11 rfl) 7 rfl;obtain⟨A',c',q11,ho⟩:=hW.r11 (hk 11 rfl) h0;have z0:=(on.cell (p:=⟨g3,0,none⟩) hg3).trans zt;have f0:=(on.frozen (p:=⟨g3,0,none⟩) hg3).trans ft;have hcv:=(HV.out.on on).tab ht0 ⟨A',t0.n+1,c',t0.l++[⟨2,0,b⟩]⟩ (ho.weak hWB) (by rw[List.length_append,hok0.1];rfl) (fun z hz=>by
     rcases List.mem_append.1 hz with hz | hz
     ·exact hok0.2.1 z hz
     obtain rfl:z=⟨2,0,b⟩:=by simpa using hz
     exact⟨⟨by show (-9223372036854775808:Int)≤2;omega,by show (2:Int)≤9223372036854775807;omega⟩,⟨by show (-9223372036854775808:Int)≤0;omega,by show (0:Int)≤9223372036854775807;omega⟩,HIB.out⟩) (by show (t0.n+1)*24≤_;omega)
    have u:∀ k,k≠13→Rgs.upd live 13 k=live k:=fun k hk=>by unfold Rgs.upd;simp[hk]
    refine Rgs.store rfl (Reg.wanted_free rfl) (w1.setCell ⟨g3,0,none⟩ (.slice A' (t0.n+1:Nat) c')) ?_ trivial ⟨fun e=>absurd e (by rw[Rgs.upd_self];decide),?_,?_,?_,?_,fun _ e=>absurd e (by rw[Rgs.upd_self];decide),fun _=>⟨A',c',hcv⟩⟩ (fun j v _ h=>h)
    ·have c:=Reg.consts a;generalize a.eval=ρ at *;simp[execOp,go_sem,c.1,c.2,d12,q11,z0,f0]
    ·rw[u 7 (by decide)];exact fun _ e=>by rw[l7'] at e;cases e
    ·rw[u 11 (by decide)];exact fun _ e=>by rw[hk 11 rfl] at e;cases e
    ·rw[u 11 (by decide)];exact fun _ e=>by rw[hk 11 rfl] at e;cases e
    rw[u 7 (by decide)];exact fun _ e=>by rw[l7'] at e;cases e
   intro a w9 live hs hd E Dv Hl hW;obtain⟨A3t,c3t,hcv⟩:=hW.r13 (Hl 13 (by decide));rw[Rgs.act_ws a _ _ hs hd E [215,216,217,218,219,220,221,222,223,224,225,226,227] (by kernel_rfl)];simp only[List.foldl,List.setIfInBounds_toArray,List.set_cons_succ,List.set_cons_zero];clear E Dv Hl hW m0 m1 m2 zt ft;generalize a.eval=ρ;clear a hs hd;obtain⟨m0,m1,m2⟩:=hcv.s.cells;go_upto_region 44 with fail;clear m0 m1 m2;have hsm:SmX (m+16) ⟨some ⟨g1,0,none⟩,D2,some ⟨g3,0,none⟩,N+1,n2,n3,d1,d2,d3,Q,C,T.set 0 ⟨A3t,t0.n+1,c3t,t0.l++[⟨2,0,b⟩]⟩⟩:=⟨q1,by show N+1≤m+16;omega,by show n2≤m+16;omega,by show n3≤m+16;omega,fun z hz=>by have:=HSX.out z hz;omega,fun z hz=>by
     rcases List.mem_or_eq_of_mem_set hz with hz | rfl
     ·have:=HND.out z hz;omega
     show t0.n+1≤1024+(m+16);omega⟩
   obtain⟨⟨z0,z1,z2,f0,f1,f2⟩,⟨e0,e1,e2⟩,hfin⟩:=hcv.fin hsm;have E0:=hid e0;have E1:=hid e1;have E2:=hid e2;have HFIN:=hid hfin
   obtain⟨m0,m1,m2⟩:=hcv.s.cells;dsimp only at z0 z1 z2 f0 f1 f2 m0 m1 m2 E0 E1 E2 HFIN;clear e0 e1 e2 hfin hcv hsm;go_wp2_with fail;exact bodyPost_ret (results_runC rfl rfl E0.out E1.out E2.out) rfl HFIN.out
  ·obtain⟨M,hM,hle⟩:=and_mask b 7 (by omega);have hM:bits .and .i64 b 7=(M:Int):=hM;obtain⟨M2,hM2,hle2⟩:=and_mask b 63 (by omega);have hM2:bits .and .i64 b 63=(M2:Int):=hM2;have hn3:0 < n3:=by
    rcases hq2 with h | ⟨_,h,_⟩
    ·have:((n3:Int) == 0)=false:=h;rcases Nat.eq_zero_or_pos n3 with h0 | h0
     ·rw[h0] at this;cases this
     exact h0
    cases h
   obtain⟨g3,e3,hBg3,hg3⟩:=HV.out.s.tb.block (by show 0 < n3;omega);have e3:D3=some ⟨g3,0,none⟩:=e3;subst e3;obtain⟨t0,ht0⟩:∃ t0,T[0]? = some t0:=⟨_,List.getElem?_eq_getElem (by have:=HV.out.ok.l3;dsimp only at this;omega)⟩;have hba:=bl1 W (.cells #[.int .i64 1,.int .i64 (M:Int),.int .i64 (1+(M2:Int))] 70);have hos:=ownV_lit W 70 3 w.heap.size #[.int .i64 1,.int .i64 (M:Int),.int .i64 (1+(M2:Int))] 1 rfl HV.out.be.size (by unfold maxLen;omega);have hVb:=HV.out.on hba;obtain⟨zt,ft⟩:=hVb.s.tb.cell tcn_len (i:=0) (k:=0) (v:=.slice t0.A t0.n t0.c) ht0 (by omega) rfl;have zt:(W.alloc (.cells #[.int .i64 1,.int .i64 (M:Int),.int .i64 (1+(M2:Int))] 70)).cell? ⟨g3,0,none⟩=some (.slice t0.A t0.n t0.c):=zt;have ft:(W.alloc (.cells #[.int .i64 1,.int .i64 (M:Int),.int .i64 (1+(M2:Int))] 70)).frozen? ⟨g3,0,none⟩=false:=ft;have hcv:=hVb.tab ht0 ⟨some ⟨W.heap.size,0,none⟩,1,1,[⟨1,(M:Int),1+(M2:Int)⟩]⟩ hos rfl (fun z hz=>by
    obtain rfl:z=⟨1,(M:Int),1+(M2:Int)⟩:=by simpa using hz
    exact⟨⟨by show (-9223372036854775808:Int)≤1;omega,by show (1:Int)≤9223372036854775807;omega⟩,⟨by show (-9223372036854775808:Int)≤(M:Int);omega,by show (M:Int)≤9223372036854775807;omega⟩,⟨by show (-9223372036854775808:Int)≤1+(M2:Int);omega,by show 1+(M2:Int)≤9223372036854775807;omega⟩⟩) (by show 1*24≤_;omega)
   go_upto_region 44 with fail;dsimp only at hcv;rw[World.setCell_alloc_past _ _ _ _ hg3] at hcv;generalize (W.setCell ⟨g3,0,none⟩ (.slice (some ⟨W.heap.size,0,none⟩) 1 1)).alloc (.cells #[.int .i64 1,.int .i64 (M:Int),.int .i64 (1+(M2:Int))] 70)=Wk at hcv ⊢;clear zt ft m0 m1 m2 hos hba hVb;have hsm:SmX (m+16) ⟨some ⟨g1,0,none⟩,D2,some ⟨g3,0,none⟩,N+1,n2,n3,d1,d2,d3,Q,C,T.set 0 ⟨some ⟨W.heap.size,0,none⟩,1,1,[⟨1,(M:Int),1+(M2:Int)⟩]⟩⟩:=⟨q1,by show N+1≤m+16;omega,by show n2≤m+16;omega,by show n3≤m+16;omega,fun z hz=>by have:=HSX.out z hz;omega,fun z hz=>by
     rcases List.mem_or_eq_of_mem_set hz with hz | rfl
     ·have:=HND.out z hz;omega
     show 1≤1024+(m+16);omega⟩
   obtain⟨⟨z0,z1,z2,f0,f1,f2⟩,⟨e0,e1,e2⟩,hfin⟩:=hcv.fin hsm;have E0:=hid e0;have E1:=hid e1;have E2:=hid e2;have HFIN:=hid hfin
   obtain⟨m0,m1,m2⟩:=hcv.s.cells;dsimp only at z0 z1 z2 f0 f1 f2 m0 m1 m2 E0 E1 E2 HFIN;clear e0 e1 e2 hfin hcv hsm;go_wp2_with fail;exact bodyPost_ret (results_runC rfl rfl E0.out E1.out E2.out) rfl HFIN.out
  ·have hcv:=HV.out.bare;have fc:W.frozen? ⟨gc,2,none⟩=false:=World.ownsRow.frozenAt HV.out.s.cf 2;go_upto_region 44 with fail;generalize W.setCell ⟨gc,2,none⟩ (.slice none 0 0)=Wk at hcv ⊢;clear fc m0 m1 m2;have hsm:SmX (m+16) ⟨some ⟨g1,0,none⟩,D2,none,N+1,n2,0,d1,d2,0,Q,C,[]⟩:=⟨q1,by show N+1≤m+16;omega,by show n2≤m+16;omega,by show 0≤m+16;omega,fun z hz=>by have:=HSX.out z hz;omega,fun z hz=>by cases hz⟩;obtain⟨⟨z0,z1,z2,f0,f1,f2⟩,⟨e0,e1,e2⟩,hfin⟩:=hcv.fin hsm;have E0:=hid e0;have E1:=hid e1;have E2:=hid e2;have HFIN:=hid hfin
   obtain⟨m0,m1,m2⟩:=hcv.s.cells;dsimp only at z0 z1 z2 f0 f1 f2 m0 m1 m2 E0 E1 E2 HFIN;clear e0 e1 e2 hfin hcv hsm;go_wp2_with fail;exact bodyPost_ret (results_runC rfl rfl E0.out E1.out E2.out) rfl HFIN.out
  ·obtain⟨M,hM,hle⟩:=and_mask b 1 (by omega);have hM:bits .and .i64 b 1=(M:Int):=hM;rcases(by omega:M=0∨M=1) with rfl | rfl
   ·clear m0 m1 m2 z5 f5;have hn3:0 < n3:=by
     rcases hq2 with h | ⟨_,_,h⟩
     ·have:((n3:Int) == 0)=false:=h;rcases Nat.eq_zero_or_pos n3 with h0 | h0
      ·rw[h0] at this;cases this
      exact h0
     cases h
    go_wp2_with fail;go_loopw [] (fun wx=>∃(A5:Option Addr) (n c5:Nat) (T5:List NdT),CvO w gr gc ⟨some ⟨g1,0,none⟩,D2,A5,N+1,n2,n,d1,d2,c5,Q,C,T5⟩ wx∧0 < n∧n≤m+16∧(∀ z∈T5,z.n≤1024+m)) (fun wx=>3 - lenAt wx gc 2)
    case atStart=>exact⟨D3,n3,d3,T,HV.out,hn3,by omega,HND.out⟩
    obtain⟨A5,n,c5,T5,hV,hn0,hn,hnd⟩:=hrel;have HV5:=hid hV;have HND5:=hid hnd;obtain⟨m0,m1,m2⟩:=hV.s.cells;dsimp only at m0 m1 m2;have hl5:=lenAt_eq m2;clear hnd;by_cases hlt:n < 3
    ·have hli:(n:Int) < 3:=by omega
     obtain⟨g3,e3,hBg3,hg3⟩:=hV.s.tb.block (by show 0 < n;omega);have e3:A5=some ⟨g3,0,none⟩:=e3;subst e3;have htl:T5.length=n:=hV.s.tb.len;obtain⟨t0,ht0⟩:∃ t0,T5[0]? = some t0:=⟨_,List.getElem?_eq_getElem (by omega)⟩;have htm:=List.mem_of_getElem? ht0;have hbl:=bl1 wr (.cells #[.slice t0.A t0.n t0.c] 64);have hV7:=hV.on hbl;have hown:=hV7.s.tb.own;have hr2:=rdV_new wr #[.slice t0.A t0.n t0.c] 64 ([t0].flatMap tcn) rfl;have hsz:w.heap.size≤(wr.alloc (.cells #[.slice t0.A t0.n t0.c] 64)).heap.size:=hV7.be.size;obtain⟨zt,ft⟩:=hV.s.tb.cell tcn_len (i:=0) (k:=0) (v:=.slice t0.A t0.n t0.c) ht0 (by omega) rfl;have zt:wr.cell? ⟨g3,0,none⟩=some (.slice t0.A t0.n t0.c):=zt;have hn0i:(0:Int) < (n:Int):=by omega
     have HST:Hid (∀ A4 w4,Grew (some ⟨g3,0,none⟩) A4 (wr.alloc (.cells #[.slice t0.A t0.n t0.c] 64)) w4→w4.cell? ⟨gc,2,none⟩=some (.slice (some ⟨g3,0,none⟩) n c5)∧w4.frozen? ⟨gc,2,none⟩=false):=hid fun A4 w4 hg=>by
      have h:=hV7.s.cf.grew hV7.s.tb.own (by decide) hg;exact⟨World.ownsRow.cellAt h 2 (by omega),World.ownsRow.frozenAt h 2⟩
     have HFI:Hid (∀ A4 c4 w4,OwnV 64 1 w4 w.heap.size A4 (n+1) c4 ((T5++[t0]).flatMap tcn)→Below w.heap.size (wr.alloc (.cells #[.slice t0.A t0.n t0.c] 64)) w4→Grew (some ⟨g3,0,none⟩) A4 (wr.alloc (.cells #[.slice t0.A t0.n t0.c] 64)) w4→CvO w gr gc ⟨some ⟨g1,0,none⟩,D2,A4,N+1,n2,n+1,d1,d2,c4,Q,C,T5++[t0]⟩ (w4.setCell ⟨gc,2,none⟩ (.slice A4 (n+1:Nat) c4))):=hid fun A4 c4 w4 ho hb hg=>hV7.tabs hb hg htm ho (by omega);have m2a:=(hbl.cell (p:=⟨gc,2,none⟩) (World.block_lt_of_cell? _ _ m2)).trans m2;have zta:=(hbl.cell (p:=⟨g3,0,none⟩) hg3).trans zt;clear hV7 hbl hV;go_upto_region 43 with fail;go_region_law (refine step_appX elNN rfl (.tmp 253) (.tmp 258) rfl rfl w.heap.size (some ⟨g3,0,none⟩) n c5 _ rfl hown _ 1 1 _ _ rfl hr2 rfl Nat.one_pos (tcn_one _) (by omega) (by unfold maxLen;omega) hsz (n+1) rfl ((T5++[t0]).flatMap tcn) (by rw[List.flatMap_append]) ?_;intro A4 c4 w4 hw4 hb4 hg4;obtain⟨s0,s1⟩:=HST.out A4 w4 hg4.drew)
     all_goals
      have hcv:=HFI.out A4 c4 w4 hw4 ⟨hb4.os,hb4.tape,hb4.output,hb4.size,hb4.block⟩ hg4.drew;clear s0 s1 hw4 hb4 hg4 HST HFI hown hr2 hsz m0 m1 m2 zt ft m2a zta;generalize w4.setCell ⟨gc,2,none⟩ (.slice A4 (n+1:Nat) c4)=Wk at hcv ⊢;have hl6:=lenAt_eq hcv.s.cells.2.2;dsimp only at hl6;go_wp2_with fail;go_roundw
      case rel=>exact⟨A4,n+1,c4,T5++[t0],hcv,by omega,by omega,fun z hz=>by
       rcases List.mem_append.1 hz with hz | hz
       ·exact HND5.out z hz
       obtain rfl:z=t0:=by simpa using hz
       exact HND5.out _ htm⟩
      rw[hl5,hl6];omega
    have hli:¬ (n:Int) < 3:=by omega
    have hcv:=HV5.out;clear m0 m1 m2 hV;have hsm:SmX (m+16) ⟨some ⟨g1,0,none⟩,D2,A5,N+1,n2,n,d1,d2,c5,Q,C,T5⟩:=⟨q1,by show N+1≤m+16;omega,by show n2≤m+16;omega,by show n≤m+16;omega,fun z hz=>by have:=HSX.out z hz;omega,fun z hz=>by have:=HND5.out z hz;omega⟩;obtain⟨⟨z0,z1,z2,f0,f1,f2⟩,⟨e0,e1,e2⟩,hfin⟩:=hcv.fin hsm;have E0:=hid e0;have E1:=hid e1;have E2:=hid e2;have HFIN:=hid hfin
    obtain⟨m0,m1,m2⟩:=hcv.s.cells;dsimp only at z0 z1 z2 f0 f1 f2 m0 m1 m2 E0 E1 E2 HFIN;clear e0 e1 e2 hfin hcv hsm;go_wp2_with fail;exact bodyPost_ret (results_runC rfl rfl E0.out E1.out E2.out) rfl HFIN.out
   clear m0 m1 m2 z5 f5;have hn3:0 < n3:=by
    rcases hq2 with h | ⟨_,_,h⟩
    ·have:((n3:Int) == 0)=false:=h;rcases Nat.eq_zero_or_pos n3 with h0 | h0
     ·rw[h0] at this;cases this
     exact h0
    cases h
   go_wp2_with fail;go_loopw [] (fun wx=>∃(A5:Option Addr) (n c5:Nat) (T5:List NdT),CvO w gr gc ⟨some ⟨g1,0,none⟩,D2,A5,N+1,n2,n,d1,d2,c5,Q,C,T5⟩ wx∧0 < n∧n≤m+16∧(∀ z∈T5,z.n≤1024+m)) (fun wx=>4 - lenAt wx gc 2)
   case atStart=>exact⟨D3,n3,d3,T,HV.out,hn3,by omega,HND.out⟩
   obtain⟨A5,n,c5,T5,hV,hn0,hn,hnd⟩:=hrel;have HV5:=hid hV;have HND5:=hid hnd;obtain⟨m0,m1,m2⟩:=hV.s.cells;dsimp only at m0 m1 m2;have hl5:=lenAt_eq m2;clear hnd;by_cases hlt:n < 4
   ·have hli:(n:Int) < 4:=by omega
    obtain⟨g3,e3,hBg3,hg3⟩:=hV.s.tb.block (by show 0 < n;omega);have e3:A5=some ⟨g3,0,none⟩:=e3;subst e3;have htl:T5.length=n:=hV.s.tb.len;obtain⟨t0,ht0⟩:∃ t0,T5[0]? = some t0:=⟨_,List.getElem?_eq_getElem (by omega)⟩;have htm:=List.mem_of_getElem? ht0;have hbl:=bl1 wr (.cells #[.slice t0.A t0.n t0.c] 64);have hV7:=hV.on hbl;have hown:=hV7.s.tb.own;have hr2:=rdV_new wr #[.slice t0.A t0.n t0.c] 64 ([t0].flatMap tcn) rfl;have hsz:w.heap.size≤(wr.alloc (.cells #[.slice t0.A t0.n t0.c] 64)).heap.size:=hV7.be.size;obtain⟨zt,ft⟩:=hV.s.tb.cell tcn_len (i:=0) (k:=0) (v:=.slice t0.A t0.n t0.c) ht0 (by omega) rfl;have zt:wr.cell? ⟨g3,0,none⟩=some (.slice t0.A t0.n t0.c):=zt;have hn0i:(0:Int) < (n:Int):=by omega
    have HST:Hid (∀ A4 w4,Grew (some ⟨g3,0,none⟩) A4 (wr.alloc (.cells #[.slice t0.A t0.n t0.c] 64)) w4→w4.cell? ⟨gc,2,none⟩=some (.slice (some ⟨g3,0,none⟩) n c5)∧w4.frozen? ⟨gc,2,none⟩=false):=hid fun A4 w4 hg=>by
     have h:=hV7.s.cf.grew hV7.s.tb.own (by decide) hg;exact⟨World.ownsRow.cellAt h 2 (by omega),World.ownsRow.frozenAt h 2⟩
    have HFI:Hid (∀ A4 c4 w4,OwnV 64 1 w4 w.heap.size A4 (n+1) c4 ((T5++[t0]).flatMap tcn)→Below w.heap.size (wr.alloc (.cells #[.slice t0.A t0.n t0.c] 64)) w4→Grew (some ⟨g3,0,none⟩) A4 (wr.alloc (.cells #[.slice t0.A t0.n t0.c] 64)) w4→CvO w gr gc ⟨some ⟨g1,0,none⟩,D2,A4,N+1,n2,n+1,d1,d2,c4,Q,C,T5++[t0]⟩ (w4.setCell ⟨gc,2,none⟩ (.slice A4 (n+1:Nat) c4))):=hid fun A4 c4 w4 ho hb hg=>hV7.tabs hb hg htm ho (by omega);have m2a:=(hbl.cell (p:=⟨gc,2,none⟩) (World.block_lt_of_cell? _ _ m2)).trans m2;have zta:=(hbl.cell (p:=⟨g3,0,none⟩) hg3).trans zt;clear hV7 hbl hV;go_upto_region 43 with fail;go_region_law (refine step_appX elNN rfl (.tmp 253) (.tmp 258) rfl rfl w.heap.size (some ⟨g3,0,none⟩) n c5 _ rfl hown _ 1 1 _ _ rfl hr2 rfl Nat.one_pos (tcn_one _) (by omega) (by unfold maxLen;omega) hsz (n+1) rfl ((T5++[t0]).flatMap tcn) (by rw[List.flatMap_append]) ?_;intro A4 c4 w4 hw4 hb4 hg4;obtain⟨s0,s1⟩:=HST.out A4 w4 hg4.drew)
    all_goals
     have hcv:=HFI.out A4 c4 w4 hw4 ⟨hb4.os,hb4.tape,hb4.output,hb4.size,hb4.block⟩ hg4.drew;clear s0 s1 hw4 hb4 hg4 HST HFI hown hr2 hsz m0 m1 m2 zt ft m2a zta;generalize w4.setCell ⟨gc,2,none⟩ (.slice A4 (n+1:Nat) c4)=Wk at hcv ⊢;have hl6:=lenAt_eq hcv.s.cells.2.2;dsimp only at hl6;go_wp2_with fail;go_roundw
     case rel=>exact⟨A4,n+1,c4,T5++[t0],hcv,by omega,by omega,fun z hz=>by
      rcases List.mem_append.1 hz with hz | hz
      ·exact HND5.out z hz
      obtain rfl:z=t0:=by simpa using hz
      exact HND5.out _ htm⟩
     rw[hl5,hl6];omega
   have hli:¬ (n:Int) < 4:=by omega
   have hcv:=HV5.out;clear m0 m1 m2 hV;have hsm:SmX (m+16) ⟨some ⟨g1,0,none⟩,D2,A5,N+1,n2,n,d1,d2,c5,Q,C,T5⟩:=⟨q1,by show N+1≤m+16;omega,by show n2≤m+16;omega,by show n≤m+16;omega,fun z hz=>by have:=HSX.out z hz;omega,fun z hz=>by have:=HND5.out z hz;omega⟩;obtain⟨⟨z0,z1,z2,f0,f1,f2⟩,⟨e0,e1,e2⟩,hfin⟩:=hcv.fin hsm;have E0:=hid e0;have E1:=hid e1;have E2:=hid e2;have HFIN:=hid hfin
   obtain⟨m0,m1,m2⟩:=hcv.s.cells;dsimp only at z0 z1 z2 f0 f1 f2 m0 m1 m2 E0 E1 E2 HFIN;clear e0 e1 e2 hfin hcv hsm;go_wp2_with fail;exact bodyPost_ret (results_runC rfl rfl E0.out E1.out E2.out) rfl HFIN.out
  obtain⟨M,hM,hle⟩:=and_mask b 1 (by omega);have hM:bits .and .i64 b 1=(M:Int):=hM;rcases(by omega:M=0∨M=1) with rfl | rfl
  ·clear m0 m1 m2 z5 f5;go_wp2_with fail;go_loopw [] (fun wx=>∃(A5:Option Addr) (n c5:Nat) (C5:List ChV),CvO w gr gc ⟨some ⟨g1,0,none⟩,A5,D3,N+1,n,n3,d1,c5,d3,Q,C5,T⟩ wx∧n≤m+16) (fun wx=>8 - lenAt wx gc 1)
   case atStart=>exact⟨D2,n2,d2,C,HV.out,by omega⟩
   obtain⟨A5,n,c5,C5,hV,hn⟩:=hrel;have HV5:=hid hV;obtain⟨m0,m1,m2⟩:=hV.s.cells;dsimp only at m0 m1 m2;have hl5:=lenAt_eq m1;clear hV;by_cases hlt:n < 8
   ·have hli:(n:Int) < 8:=by omega
    have hbl:=bl1 wr (.cells #[.int .i64 0,.int .i64 (N:Int),.bool false,.int .i64 0,.int .u32 0,.int .i64 0] 63);have hV7:=HV5.out.on hbl;have hown:=hV7.s.ch.own;have hr2:=rdV_new wr #[.int .i64 0,.int .i64 (N:Int),.bool false,.int .i64 0,.int .u32 0,.int .i64 0] 63 ([(⟨0,(N:Int),false,0,0,0⟩:ChV)].flatMap cc) rfl;have hsz:w.heap.size≤(wr.alloc (.cells #[.int .i64 0,.int .i64 (N:Int),.bool false,.int .i64 0,.int .u32 0,.int .i64 0] 63)).heap.size:=hV7.be.size;have HST:Hid (∀ A4 w4,Grew A5 A4 (wr.alloc (.cells #[.int .i64 0,.int .i64 (N:Int),.bool false,.int .i64 0,.int .u32 0,.int .i64 0] 63)) w4→w4.cell? ⟨gc,1,none⟩=some (.slice A5 n c5)∧w4.frozen? ⟨gc,1,none⟩=false):=hid fun A4 w4 hg=>by
     have h:=hV7.s.cf.grew hV7.s.ch.own (by decide) hg;exact⟨World.ownsRow.cellAt h 1 (by omega),World.ownsRow.frozenAt h 1⟩
    have HFI:Hid (∀ A4 c4 w4,OwnV 63 6 w4 w.heap.size A4 (n+1) c4 ((C5++[(⟨0,(N:Int),false,0,0,0⟩:ChV)]).flatMap cc)→Below w.heap.size (wr.alloc (.cells #[.int .i64 0,.int .i64 (N:Int),.bool false,.int .i64 0,.int .u32 0,.int .i64 0] 63)) w4→Grew A5 A4 (wr.alloc (.cells #[.int .i64 0,.int .i64 (N:Int),.bool false,.int .i64 0,.int .u32 0,.int .i64 0] 63)) w4→CvO w gr gc ⟨some ⟨g1,0,none⟩,A4,D3,N+1,n+1,n3,d1,c4,d3,Q,C5++[(⟨0,(N:Int),false,0,0,0⟩:ChV)],T⟩ (w4.setCell ⟨gc,1,none⟩ (.slice A4 (n+1:Nat) c4))):=hid fun A4 c4 w4 ho hb hg=>hV7.chan hb hg ho (by omega);clear hV7 hbl;go_wp2_with (at_builtin;go_loud (refine wpList_appX elCh rfl (.tmp 84) (.tmp 90) rfl rfl w.heap.size A5 n c5 _ rfl hown _ 1 1 _ _ rfl hr2 rfl Nat.one_pos (cc_one _) (by omega) (by unfold maxLen;omega) hsz (n+1) rfl ((C5++[(⟨0,(N:Int),false,0,0,0⟩:ChV)]).flatMap cc) (by rw[List.flatMap_append]) ?_;intro A4 c4 w4 hw4 hb4 hg4;obtain⟨s0,s1⟩:=HST.out A4 w4 hg4));have hcv:=HFI.out A4 c4 w4 hw4 hb4 hg4;clear s0 s1 hw4 hb4 hg4 HST HFI hown hr2 hsz m0 m1 m2;generalize w4.setCell ⟨gc,1,none⟩ (.slice A4 (n+1:Nat) c4)=Wk at hcv ⊢;have hl6:=lenAt_eq hcv.s.cells.2.1;dsimp only at hl6;go_roundw
    case rel=>exact⟨A4,n+1,c4,C5++[(⟨0,(N:Int),false,0,0,0⟩:ChV)],hcv,by omega⟩
    rw[hl5,hl6];omega
   have hli:¬ (n:Int) < 8:=by omega
   have hcv:=HV5.out;clear m0 m1 m2;have hsm:SmX (m+16) ⟨some ⟨g1,0,none⟩,A5,D3,N+1,n,n3,d1,c5,d3,Q,C5,T⟩:=⟨q1,by show N+1≤m+16;omega,by show n≤m+16;omega,by show n3≤m+16;omega,fun z hz=>by have:=HSX.out z hz;omega,fun z hz=>by have:=HND.out z hz;omega⟩;obtain⟨⟨z0,z1,z2,f0,f1,f2⟩,⟨e0,e1,e2⟩,hfin⟩:=hcv.fin hsm;have E0:=hid e0;have E1:=hid e1;have E2:=hid e2;have HFIN:=hid hfin
   obtain⟨m0,m1,m2⟩:=hcv.s.cells;dsimp only at z0 z1 z2 f0 f1 f2 m0 m1 m2 E0 E1 E2 HFIN;clear e0 e1 e2 hfin hcv hsm;go_wp2_with fail;exact bodyPost_ret (results_runC rfl rfl E0.out E1.out E2.out) rfl HFIN.out
  clear m0 m1 m2 z5 f5;go_wp2_with fail;go_loopw [] (fun wx=>∃(A5:Option Addr) (n c5:Nat) (C5:List ChV),CvO w gr gc ⟨some ⟨g1,0,none⟩,A5,D3,N+1,n,n3,d1,c5,d3,Q,C5,T⟩ wx∧n≤m+16) (fun wx=>9 - lenAt wx gc 1)
  case atStart=>exact⟨D2,n2,d2,C,HV.out,by omega⟩
  obtain⟨A5,n,c5,C5,hV,hn⟩:=hrel;have HV5:=hid hV;obtain⟨m0,m1,m2⟩:=hV.s.cells;dsimp only at m0 m1 m2;have hl5:=lenAt_eq m1;clear hV;by_cases hlt:n < 9
  ·have hli:(n:Int) < 9:=by omega
   have hbl:=bl1 wr (.cells #[.int .i64 0,.int .i64 (N:Int),.bool false,.int .i64 0,.int .u32 0,.int .i64 0] 63);have hV7:=HV5.out.on hbl;have hown:=hV7.s.ch.own;have hr2:=rdV_new wr #[.int .i64 0,.int .i64 (N:Int),.bool false,.int .i64 0,.int .u32 0,.int .i64 0] 63 ([(⟨0,(N:Int),false,0,0,0⟩:ChV)].flatMap cc) rfl;have hsz:w.heap.size≤(wr.alloc (.cells #[.int .i64 0,.int .i64 (N:Int),.bool false,.int .i64 0,.int .u32 0,.int .i64 0] 63)).heap.size:=hV7.be.size;have HST:Hid (∀ A4 w4,Grew A5 A4 (wr.alloc (.cells #[.int .i64 0,.int .i64 (N:Int),.bool false,.int .i64 0,.int .u32 0,.int .i64 0] 63)) w4→w4.cell? ⟨gc,1,none⟩=some (.slice A5 n c5)∧w4.frozen? ⟨gc,1,none⟩=false):=hid fun A4 w4 hg=>by
    have h:=hV7.s.cf.grew hV7.s.ch.own (by decide) hg;exact⟨World.ownsRow.cellAt h 1 (by omega),World.ownsRow.frozenAt h 1⟩
   have HFI:Hid (∀ A4 c4 w4,OwnV 63 6 w4 w.heap.size A4 (n+1) c4 ((C5++[(⟨0,(N:Int),false,0,0,0⟩:ChV)]).flatMap cc)→Below w.heap.size (wr.alloc (.cells #[.int .i64 0,.int .i64 (N:Int),.bool false,.int .i64 0,.int .u32 0,.int .i64 0] 63)) w4→Grew A5 A4 (wr.alloc (.cells #[.int .i64 0,.int .i64 (N:Int),.bool false,.int .i64 0,.int .u32 0,.int .i64 0] 63)) w4→CvO w gr gc ⟨some ⟨g1,0,none⟩,A4,D3,N+1,n+1,n3,d1,c4,d3,Q,C5++[(⟨0,(N:Int),false,0,0,0⟩:ChV)],T⟩ (w4.setCell ⟨gc,1,none⟩ (.slice A4 (n+1:Nat) c4))):=hid fun A4 c4 w4 ho hb hg=>hV7.chan hb hg ho (by omega);clear hV7 hbl;go_wp2_with (at_builtin;go_loud (refine wpList_appX elCh rfl (.tmp 84) (.tmp 90) rfl rfl w.heap.size A5 n c5 _ rfl hown _ 1 1 _ _ rfl hr2 rfl Nat.one_pos (cc_one _) (by omega) (by unfold maxLen;omega) hsz (n+1) rfl ((C5++[(⟨0,(N:Int),false,0,0,0⟩:ChV)]).flatMap cc) (by rw[List.flatMap_append]) ?_;intro A4 c4 w4 hw4 hb4 hg4;obtain⟨s0,s1⟩:=HST.out A4 w4 hg4));have hcv:=HFI.out A4 c4 w4 hw4 hb4 hg4;clear s0 s1 hw4 hb4 hg4 HST HFI hown hr2 hsz m0 m1 m2;generalize w4.setCell ⟨gc,1,none⟩ (.slice A4 (n+1:Nat) c4)=Wk at hcv ⊢;have hl6:=lenAt_eq hcv.s.cells.2.1;dsimp only at hl6;go_roundw
   case rel=>exact⟨A4,n+1,c4,C5++[(⟨0,(N:Int),false,0,0,0⟩:ChV)],hcv,by omega⟩
   rw[hl5,hl6];omega
  have hli:¬ (n:Int) < 9:=by omega
  have hcv:=HV5.out;clear m0 m1 m2;have hsm:SmX (m+16) ⟨some ⟨g1,0,none⟩,A5,D3,N+1,n,n3,d1,c5,d3,Q,C5,T⟩:=⟨q1,by show N+1≤m+16;omega,by show n≤m+16;omega,by show n3≤m+16;omega,fun z hz=>by have:=HSX.out z hz;omega,fun z hz=>by have:=HND.out z hz;omega⟩;obtain⟨⟨z0,z1,z2,f0,f1,f2⟩,⟨e0,e1,e2⟩,hfin⟩:=hcv.fin hsm;have E0:=hid e0;have E1:=hid e1;have E2:=hid e2;have HFIN:=hid hfin
  obtain⟨m0,m1,m2⟩:=hcv.s.cells;dsimp only at z0 z1 z2 f0 f1 f2 m0 m1 m2 E0 E1 E2 HFIN;clear e0 e1 e2 hfin hcv hsm;go_wp2_with fail;exact bodyPost_ret (results_runC rfl rfl E0.out E1.out E2.out) rfl HFIN.out
structure OddZ:Prop where
 odd:∀(m:Nat) (x:Cf) (a b:Int) (w:World),m≤64→CfR w x→SmX m x→In64 b→Calls Tryz.prog 10 #[cfv x,.int .i64 a,.int .i64 b] w (OdA (m+16) w)
theorem oddZ:OddZ:=⟨fun m x a b w hm hx hs hb=>odd_any m x a b w hm hx hs hb⟩
theorem lfew14_in(A1 A2 A3:Option Addr)(n1 n2 n3 c1 c2 c3:Nat)(w:World)(h1:n1≤c1)(h2:n2≤c2)(h3:n3≤c3)(b1:c1≤maxLen)(b2:c2≤maxLen)(b3:c3≤maxLen):
  Calls Tryz.prog 16 #[.agg #[.slice A1 n1 c1,.slice A2 n2 c2,.slice A3 n3 c3]] w fun e w'=>e=.returned (.agg #[.slice A1 (min n1 8) c1,.slice A2 (min n2 12) c2,.slice A3 (min n3 5) c3])∧Below w.heap.size w w':=by
 unfold maxLen at b1 b2 b3;go_enter Tryz.func16,Tryz.ntmps16;by_cases q1:8 < n1 <;> by_cases q2:12 < n2 <;> by_cases q3:5 < n3
 ·have e1:min n1 8=8:=by omega
  have e2:min n2 12=12:=by omega
  have e3:min n3 5=5:=by omega
  rw[e1,e2,e3];have i1:(8:Int) < (n1:Int):=by omega
  have j1:8≤c1:=by omega
  have i2:(12:Int) < (n2:Int):=by omega
  have j2:12≤c2:=by omega
  have i3:(5:Int) < (n3:Int):=by omega
  have j3:5≤c3:=by omega
  go_wp2_with fail;have e:(w.alloc (.cells #[.slice A1 8 c1,.slice A2 12 c2,.slice A3 5 c3] 26)).heap.size=w.heap.size+1:=by simp
  have hv:=box_vec (w.alloc (.cells #[.slice A1 8 c1,.slice A2 12 c2,.slice A3 5 c3] 26)) (.slice A1 8 c1) (.slice A2 12 c2) (.slice A3 5 c3) 26;rw[e] at hv;obtain⟨d0,d1,d2⟩:=hv.three;exact bodyPost_ret (results_runC rfl rfl d0 d1 d2) rfl ⟨rfl,(bl1 w _).trans ((bl1 _ _).mono (by simp))⟩
 ·have e1:min n1 8=8:=by omega
  have e2:min n2 12=12:=by omega
  have e3:min n3 5=n3:=by omega
  rw[e1,e2,e3];have i1:(8:Int) < (n1:Int):=by omega
  have j1:8≤c1:=by omega
  have i2:(12:Int) < (n2:Int):=by omega
  have j2:12≤c2:=by omega
  have i3:¬ (5:Int) < (n3:Int):=by omega
  go_wp2_with fail;have e:(w.alloc (.cells #[.slice A1 8 c1,.slice A2 12 c2,.slice A3 n3 c3] 26)).heap.size=w.heap.size+1:=by simp
  have hv:=box_vec (w.alloc (.cells #[.slice A1 8 c1,.slice A2 12 c2,.slice A3 n3 c3] 26)) (.slice A1 8 c1) (.slice A2 12 c2) (.slice A3 n3 c3) 26;rw[e] at hv;obtain⟨d0,d1,d2⟩:=hv.three;exact bodyPost_ret (results_runC rfl rfl d0 d1 d2) rfl ⟨rfl,(bl1 w _).trans ((bl1 _ _).mono (by simp))⟩
 ·have e1:min n1 8=8:=by omega
  have e2:min n2 12=n2:=by omega
  have e3:min n3 5=5:=by omega
  rw[e1,e2,e3];have i1:(8:Int) < (n1:Int):=by omega
  have j1:8≤c1:=by omega
  have i2:¬ (12:Int) < (n2:Int):=by omega
  have i3:(5:Int) < (n3:Int):=by omega
  have j3:5≤c3:=by omega
  go_wp2_with fail;have e:(w.alloc (.cells #[.slice A1 8 c1,.slice A2 n2 c2,.slice A3 5 c3] 26)).heap.size=w.heap.size+1:=by simp
  have hv:=box_vec (w.alloc (.cells #[.slice A1 8 c1,.slice A2 n2 c2,.slice A3 5 c3] 26)) (.slice A1 8 c1) (.slice A2 n2 c2) (.slice A3 5 c3) 26;rw[e] at hv;obtain⟨d0,d1,d2⟩:=hv.three;exact bodyPost_ret (results_runC rfl rfl d0 d1 d2) rfl ⟨rfl,(bl1 w _).trans ((bl1 _ _).mono (by simp))⟩
 ·have e1:min n1 8=8:=by omega
  have e2:min n2 12=n2:=by omega
  have e3:min n3 5=n3:=by omega
  rw[e1,e2,e3];have i1:(8:Int) < (n1:Int):=by omega
  have j1:8≤c1:=by omega
  have i2:¬ (12:Int) < (n2:Int):=by omega
  have i3:¬ (5:Int) < (n3:Int):=by omega
  go_wp2_with fail;have e:(w.alloc (.cells #[.slice A1 8 c1,.slice A2 n2 c2,.slice A3 n3 c3] 26)).heap.size=w.heap.size+1:=by simp
  have hv:=box_vec (w.alloc (.cells #[.slice A1 8 c1,.slice A2 n2 c2,.slice A3 n3 c3] 26)) (.slice A1 8 c1) (.slice A2 n2 c2) (.slice A3 n3 c3) 26;rw[e] at hv;obtain⟨d0,d1,d2⟩:=hv.three;exact bodyPost_ret (results_runC rfl rfl d0 d1 d2) rfl ⟨rfl,(bl1 w _).trans ((bl1 _ _).mono (by simp))⟩
 ·have e1:min n1 8=n1:=by omega
  have e2:min n2 12=12:=by omega
  have e3:min n3 5=5:=by omega
  rw[e1,e2,e3];have i1:¬ (8:Int) < (n1:Int):=by omega
  have i2:(12:Int) < (n2:Int):=by omega
  have j2:12≤c2:=by omega
  have i3:(5:Int) < (n3:Int):=by omega
  have j3:5≤c3:=by omega
  go_wp2_with fail;have e:(w.alloc (.cells #[.slice A1 n1 c1,.slice A2 12 c2,.slice A3 5 c3] 26)).heap.size=w.heap.size+1:=by simp
  have hv:=box_vec (w.alloc (.cells #[.slice A1 n1 c1,.slice A2 12 c2,.slice A3 5 c3] 26)) (.slice A1 n1 c1) (.slice A2 12 c2) (.slice A3 5 c3) 26;rw[e] at hv;obtain⟨d0,d1,d2⟩:=hv.three;exact bodyPost_ret (results_runC rfl rfl d0 d1 d2) rfl ⟨rfl,(bl1 w _).trans ((bl1 _ _).mono (by simp))⟩
 ·have e1:min n1 8=n1:=by omega
  have e2:min n2 12=12:=by omega
  have e3:min n3 5=n3:=by omega
  rw[e1,e2,e3];have i1:¬ (8:Int) < (n1:Int):=by omega
  have i2:(12:Int) < (n2:Int):=by omega
  have j2:12≤c2:=by omega
  have i3:¬ (5:Int) < (n3:Int):=by omega
  go_wp2_with fail;have e:(w.alloc (.cells #[.slice A1 n1 c1,.slice A2 12 c2,.slice A3 n3 c3] 26)).heap.size=w.heap.size+1:=by simp
  have hv:=box_vec (w.alloc (.cells #[.slice A1 n1 c1,.slice A2 12 c2,.slice A3 n3 c3] 26)) (.slice A1 n1 c1) (.slice A2 12 c2) (.slice A3 n3 c3) 26;rw[e] at hv;obtain⟨d0,d1,d2⟩:=hv.three;exact bodyPost_ret (results_runC rfl rfl d0 d1 d2) rfl ⟨rfl,(bl1 w _).trans ((bl1 _ _).mono (by simp))⟩
 ·have e1:min n1 8=n1:=by omega
  have e2:min n2 12=n2:=by omega
  have e3:min n3 5=5:=by omega
  rw[e1,e2,e3];have i1:¬ (8:Int) < (n1:Int):=by omega
  have i2:¬ (12:Int) < (n2:Int):=by omega
  have i3:(5:Int) < (n3:Int):=by omega
  have j3:5≤c3:=by omega
  go_wp2_with fail;have e:(w.alloc (.cells #[.slice A1 n1 c1,.slice A2 n2 c2,.slice A3 5 c3] 26)).heap.size=w.heap.size+1:=by simp
  have hv:=box_vec (w.alloc (.cells #[.slice A1 n1 c1,.slice A2 n2 c2,.slice A3 5 c3] 26)) (.slice A1 n1 c1) (.slice A2 n2 c2) (.slice A3 5 c3) 26;rw[e] at hv;obtain⟨d0,d1,d2⟩:=hv.three;exact bodyPost_ret (results_runC rfl rfl d0 d1 d2) rfl ⟨rfl,(bl1 w _).trans ((bl1 _ _).mono (by simp))⟩
 have e1:min n1 8=n1:=by omega
 have e2:min n2 12=n2:=by omega
 have e3:min n3 5=n3:=by omega
 rw[e1,e2,e3];have i1:¬ (8:Int) < (n1:Int):=by omega
 have i2:¬ (12:Int) < (n2:Int):=by omega
 have i3:¬ (5:Int) < (n3:Int):=by omega
 go_wp2_with fail;have e:(w.alloc (.cells #[.slice A1 n1 c1,.slice A2 n2 c2,.slice A3 n3 c3] 26)).heap.size=w.heap.size+1:=by simp
 have hv:=box_vec (w.alloc (.cells #[.slice A1 n1 c1,.slice A2 n2 c2,.slice A3 n3 c3] 26)) (.slice A1 n1 c1) (.slice A2 n2 c2) (.slice A3 n3 c3) 26;rw[e] at hv;obtain⟨d0,d1,d2⟩:=hv.three;exact bodyPost_ret (results_runC rfl rfl d0 d1 d2) rfl ⟨rfl,(bl1 w _).trans ((bl1 _ _).mono (by simp))⟩
theorem lfew14_any(x:Cf)(w:World)(h:CfR w x)(b1:x.c1≤maxLen)(b2:x.c2≤maxLen)(b3:x.c3≤maxLen):
  Calls Tryz.prog 16 #[cfv x] w fun e w'=>e=.returned (cfv (fewX x))∧CfR w' (fewX x)∧Below w.heap.size w w' :=
 (lfew14_in x.A1 x.A2 x.A3 x.n1 x.n2 x.n3 x.c1 x.c2 x.c3 w h.k1 h.k2 h.k3 b1 b2 b3).mono fun _ _ k=>⟨k.1,h.few.on k.2,k.2⟩
end Go.Proofs.YtdkngfdnfekgfaaGreat
