import Derived.Test.YtgoeikihjffeoaaGreatZk
import Derived.Test.YtgoeikihjffeoaaGreatYl
import Derived.Test.YtgoeikihjffeoaaGreatLow3
set_option linter.unusedSimpArgs false
set_option linter.unusedVariables false
namespace Go.Proofs.YtgoeikihjffeoaaGreat
open Go.RowKit Tab
structure CvO (w0:World) (gr gc:Nat) (x:Cf) (w:World):Prop where
 re:OwnV 26 3 w w0.heap.size (some ⟨gr,0,none⟩) 1 1 [.slice none 0 0,.slice none 0 0,.slice none 0 0]
 nr:gr≠gc
 s:CpS w0.heap.size gc x.A1 x.A2 x.A3 x.n1 x.n2 x.n3 x.c1 x.c2 x.c3 x.P x.C x.T w
 pt:∀ y∈x.P,(RdV w0 w0.heap.size y.1.pa (y.2.flatMap prc)∧y.1.pn≤y.1.pc)∨OwnV 51 2 w w0.heap.size y.1.pa y.1.pn y.1.pc (y.2.flatMap prc)
 tt:∀ y∈x.T,(RdV w0 w0.heap.size y.A (ns y.l)∧y.n≤y.c)∨OwnV 53 3 w w0.heap.size y.A y.n y.c (ns y.l)
 be:Below w0.heap.size w0 w
 ok:CfC x
section
variable {w0:World} {gr gc:Nat} {x:Cf} {w w':World}
theorem CvO.on (h:CvO w0 gr gc x w) (hb:Below w.heap.size w w'):CvO w0 gr gc x w' :=
 ⟨h.re.below rfl hb,h.nr,h.s.on hb,fun y hy=>(h.pt y hy).imp id fun k=>k.below rfl hb,fun y hy=>(h.tt y hy).imp id fun k=>k.below rfl hb,h.be.trans (hb.mono h.be.size),h.ok⟩
theorem CvO.r (h:CvO w0 gr gc x w):CfR w x:=by
 refine⟨h.s.pp.rdb,h.s.ch.rdb,h.s.tb.rdb,fun y hy=>?_,fun y hy=>?_,h.s.pp.cap,h.s.ch.cap,h.s.tb.cap,h.ok.m1,h.ok.m2,h.ok.m3,h.ok.z⟩
 ·have hk:=h.ok.pt y hy
  have h1:RdV w w.heap.size y.1.pa (y.2.flatMap prc)∧y.1.pn≤y.1.pc:=by
   rcases h.pt y hy with k | k
   ·exact⟨(k.1.below h.be).more h.be.size,k.2⟩
   ·exact⟨k.rd,k.cap⟩
  exact⟨⟨hk.1,hk.2.1,⟨hk.2.2.1,h1.1⟩⟩,h1.2,hk.2.2.2⟩
 ·have hk:=h.ok.tt y hy
  have h1:RdV w w.heap.size y.A (ns y.l)∧y.n≤y.c:=by
   rcases h.tt y hy with k | k
   ·exact⟨(k.1.below h.be).more h.be.size,k.2⟩
   ·exact⟨k.rd,k.cap⟩
  exact⟨⟨hk.1,h1.1,hk.2.1⟩,h1.2,hk.2.2⟩
end
theorem CvO.fin {w0:World} {gr gc:Nat} {x:Cf} {w:World} {m:Nat} (h:CvO w0 gr gc x w) (hs:SmX m x) :
  (w.cell? ⟨gr,0,none⟩=some (.slice none 0 0)∧w.cell? ⟨gr,1,none⟩=some (.slice none 0 0)∧w.cell? ⟨gr,2,none⟩=some (.slice none 0 0)∧w.frozen? ⟨gr,0,none⟩=false∧w.frozen? ⟨gr,1,none⟩=false∧w.frozen? ⟨gr,2,none⟩=false) ∧
  ((((w.setCell ⟨gr,0,none⟩ (.slice x.A1 x.n1 x.c1)).setCell ⟨gr,1,none⟩ (.slice x.A2 x.n2 x.c2)).setCell ⟨gr,2,none⟩ (.slice x.A3 x.n3 x.c3)).cell? ⟨gr,0,none⟩=some (.slice x.A1 x.n1 x.c1)∧(((w.setCell ⟨gr,0,none⟩ (.slice x.A1 x.n1 x.c1)).setCell ⟨gr,1,none⟩ (.slice x.A2 x.n2 x.c2)).setCell ⟨gr,2,none⟩ (.slice x.A3 x.n3 x.c3)).cell? ⟨gr,1,none⟩=some (.slice x.A2 x.n2 x.c2)∧(((w.setCell ⟨gr,0,none⟩ (.slice x.A1 x.n1 x.c1)).setCell ⟨gr,1,none⟩ (.slice x.A2 x.n2 x.c2)).setCell ⟨gr,2,none⟩ (.slice x.A3 x.n3 x.c3)).cell? ⟨gr,2,none⟩=some (.slice x.A3 x.n3 x.c3)) ∧
  OdA m w0 (.returned (.agg #[.slice x.A1 x.n1 x.c1,.slice x.A2 x.n2 x.c2,.slice x.A3 x.n3 x.c3])) (((w.setCell ⟨gr,0,none⟩ (.slice x.A1 x.n1 x.c1)).setCell ⟨gr,1,none⟩ (.slice x.A2 x.n2 x.c2)).setCell ⟨gr,2,none⟩ (.slice x.A3 x.n3 x.c3)):=by
 have s3:=((h.re.set 0 (.slice x.A1 x.n1 x.c1) (by show 0 < 3;omega)).set 1 (.slice x.A2 x.n2 x.c2) (by show 1 < 3;omega)).set 2 (.slice x.A3 x.n3 x.c3) (by show 2 < 3;omega)
 have hgB:=(h.re.obk_ge (b:=gr) rfl).1
 have o:∀ {E s n c:Nat} {A:Option Addr} {l:List Value},OwnV E s w w0.heap.size A n c l→E≠26→OwnV E s (((w.setCell ⟨gr,0,none⟩ (.slice x.A1 x.n1 x.c1)).setCell ⟨gr,1,none⟩ (.slice x.A2 x.n2 x.c2)).setCell ⟨gr,2,none⟩ (.slice x.A3 x.n3 x.c3)) w0.heap.size A n c l:=fun q hE =>
  ((q.other ⟨gr,0,none⟩ _ (q.ne' h.re hE)).other ⟨gr,1,none⟩ _ (q.ne' h.re hE)).other ⟨gr,2,none⟩ _ (q.ne' h.re hE)
 have hbe:Below w0.heap.size w0 (((w.setCell ⟨gr,0,none⟩ (.slice x.A1 x.n1 x.c1)).setCell ⟨gr,1,none⟩ (.slice x.A2 x.n2 x.c2)).setCell ⟨gr,2,none⟩ (.slice x.A3 x.n3 x.c3)):=((h.be.setCell (p:=⟨gr,0,none⟩) hgB _).setCell (p:=⟨gr,1,none⟩) hgB _).setCell (p:=⟨gr,2,none⟩) hgB _
 have p1:=o h.s.pp.own (by decide)
 have p2:=o h.s.ch.own (by decide)
 have p3:=o h.s.tb.own (by decide)
 refine⟨⟨World.ownsRow.cellAt h.re 0 (by omega),World.ownsRow.cellAt h.re 1 (by omega),World.ownsRow.cellAt h.re 2 (by omega),World.ownsRow.frozenAt h.re 0,World.ownsRow.frozenAt h.re 1,World.ownsRow.frozenAt h.re 2⟩,⟨World.ownsRow.cellAt s3 0 (by omega),World.ownsRow.cellAt s3 1 (by omega),World.ownsRow.cellAt s3 2 (by omega)⟩,x,rfl,⟨⟨h.s.pp.len,p1.rd⟩,⟨h.s.ch.len,p2.rd⟩,⟨h.s.tb.len,p3.rd⟩,fun y hy=>?_,fun y hy=>?_,h.s.pp.cap,h.s.ch.cap,h.s.tb.cap,h.ok.m1,h.ok.m2,h.ok.m3,h.ok.z⟩,hs,hbe⟩
 ·have hk:=h.ok.pt y hy
  have h1:RdV (((w.setCell ⟨gr,0,none⟩ (.slice x.A1 x.n1 x.c1)).setCell ⟨gr,1,none⟩ (.slice x.A2 x.n2 x.c2)).setCell ⟨gr,2,none⟩ (.slice x.A3 x.n3 x.c3)) (((w.setCell ⟨gr,0,none⟩ (.slice x.A1 x.n1 x.c1)).setCell ⟨gr,1,none⟩ (.slice x.A2 x.n2 x.c2)).setCell ⟨gr,2,none⟩ (.slice x.A3 x.n3 x.c3)).heap.size y.1.pa (y.2.flatMap prc)∧y.1.pn≤y.1.pc:=by
   rcases h.pt y hy with k | k
   ·exact⟨(k.1.below hbe).more hbe.size,k.2⟩
   ·exact⟨(o k (by decide)).rd,k.cap⟩
  exact⟨⟨hk.1,hk.2.1,⟨hk.2.2.1,h1.1⟩⟩,h1.2,hk.2.2.2⟩
 ·have hk:=h.ok.tt y hy
  have h1:RdV (((w.setCell ⟨gr,0,none⟩ (.slice x.A1 x.n1 x.c1)).setCell ⟨gr,1,none⟩ (.slice x.A2 x.n2 x.c2)).setCell ⟨gr,2,none⟩ (.slice x.A3 x.n3 x.c3)) (((w.setCell ⟨gr,0,none⟩ (.slice x.A1 x.n1 x.c1)).setCell ⟨gr,1,none⟩ (.slice x.A2 x.n2 x.c2)).setCell ⟨gr,2,none⟩ (.slice x.A3 x.n3 x.c3)).heap.size y.A (ns y.l)∧y.n≤y.c:=by
   rcases h.tt y hy with k | k
   ·exact⟨(k.1.below hbe).more hbe.size,k.2⟩
   ·exact⟨(o k (by decide)).rd,k.cap⟩
  exact⟨⟨hk.1,h1.1,hk.2.1⟩,h1.2,hk.2.2⟩
section
variable {w0:World} {gr gc g:Nat} {A1 A2 A3:Option Addr} {n1 n2 n3 c1 c2 c3:Nat} {P:List Pq} {C:List ChV} {T:List NdT} {w w':World}
theorem CvO.tab (h:CvO w0 gr gc ⟨A1,A2,some ⟨g,0,none⟩,n1,n2,n3,c1,c2,c3,P,C,T⟩ w) {i:Nat} {x:NdT} (hx:T[i]? = some x) (y:NdT) (ho:OwnV 53 3 w w0.heap.size y.A y.n y.c (ns y.l)) (hl:y.l.length=y.n) (hz:∀ z∈y.l,NdIn z) (hn:y.n*24≤140737488351232) :
  CvO w0 gr gc ⟨A1,A2,some ⟨g,0,none⟩,n1,n2,n3,c1,c2,c3,P,C,T.set i y⟩ (w.setCell ⟨g,i,none⟩ (.slice y.A y.n y.c)):=by
 have htb:=h.s.tb.own
 refine⟨h.re.other _ _ (h.re.ne' htb (by decide)),h.nr,h.s.putT hx rfl,fun z hz=>(h.pt z hz).imp id fun k=>k.other _ _ (k.ne' htb (by decide)),fun z hz=>?_,h.be.setCell (p:=⟨g,i,none⟩) (htb.obk_ge (b:=g) rfl).1 _,⟨h.ok.l1,h.ok.l2,by show (T.set i y).length=n3;rw[List.length_set];exact h.ok.l3,h.ok.pt,fun z hz=>?_,h.ok.m1,h.ok.m2,h.ok.m3,h.ok.z.1,h.ok.z.2.1,h.ok.z.2.2.1,h.ok.z.2.2.2.1,fun z hz=>?_⟩⟩
 ·rcases List.mem_or_eq_of_mem_set hz with hz | rfl
  ·exact(h.tt z hz).imp id fun k=>k.other _ _ (k.ne' htb (by decide))
  ·exact .inr (ho.other _ _ (ho.ne' htb (by decide)))
 ·rcases List.mem_or_eq_of_mem_set hz with hz | rfl
  ·exact h.ok.tt z hz
  ·exact⟨hl,‹_›,by omega⟩
 ·rcases List.mem_or_eq_of_mem_set hz with hz | rfl
  ·exact h.ok.z.2.2.2.2 z hz
  ·exact hn
theorem CvO.part (h:CvO w0 gr gc ⟨some ⟨g,0,none⟩,A2,A3,n1,n2,n3,c1,c2,c3,P,C,T⟩ w) {i k:Nat} {x y:Pq} {v:Value} (hx:P[i]? = some x) (hk:k < 11) (hy:pcq y=(pcq x).set k v) (ho:OwnV 51 2 w w0.heap.size y.1.pa y.1.pn y.1.pc (y.2.flatMap prc)) (hc:In64 y.1.per∧y.1.name.size≤140737488351232∧y.2.length=y.1.pn∧y.1.pn*16≤140737488351232) :
  CvO w0 gr gc ⟨some ⟨g,0,none⟩,A2,A3,n1,n2,n3,c1,c2,c3,P.set i y,C,T⟩ (w.setCell ⟨g,i*11+k,none⟩ v):=by
 have hpp:=h.s.pp.own
 refine⟨h.re.other _ _ (h.re.ne' hpp (by decide)),h.nr,h.s.put hx hk hy,fun z hz=>?_,fun z hz=>(h.tt z hz).imp id fun q=>q.other _ _ (q.ne' hpp (by decide)),h.be.setCell (p:=⟨g,i*11+k,none⟩) (hpp.obk_ge (b:=g) rfl).1 _,⟨by show (P.set i y).length=n1;rw[List.length_set];exact h.ok.l1,h.ok.l2,h.ok.l3,fun z hz=>?_,h.ok.tt,h.ok.m1,h.ok.m2,h.ok.m3,h.ok.z.1,h.ok.z.2.1,h.ok.z.2.2.1,fun z hz=>?_,h.ok.z.2.2.2.2⟩⟩
 ·rcases List.mem_or_eq_of_mem_set hz with hz | rfl
  ·exact(h.pt z hz).imp id fun q=>q.other _ _ (q.ne' hpp (by decide))
  ·exact .inr (ho.other _ _ (ho.ne' hpp (by decide)))
 ·rcases List.mem_or_eq_of_mem_set hz with hz | rfl
  ·exact h.ok.pt z hz
  ·exact⟨hc.1,hc.2.1,hc.2.2.1,by omega⟩
 ·rcases List.mem_or_eq_of_mem_set hz with hz | rfl
  ·exact h.ok.z.2.2.2.1 z hz
  ·exact hc.2.2.2
theorem CvO.chan (h:CvO w0 gr gc ⟨A1,A2,A3,n1,n2,n3,c1,c2,c3,P,C,T⟩ w) {A':Option Addr} {c':Nat} {x:ChV} (hb:Below w0.heap.size w w') (hg:Grew A2 A' w w') (ho:OwnV 57 6 w' w0.heap.size A' (n2+1) c' ((C++[x]).flatMap cc)) (hn:(n2+1)*48≤140737488351232) :
  CvO w0 gr gc ⟨A1,A',A3,n1,n2+1,n3,c1,c',c3,P,C++[x],T⟩ (w'.setCell ⟨gc,1,none⟩ (.slice A' (n2+1:Nat) c')):=by
 have hch:=h.s.ch.own
 have c1':=h.s.cf.grew hch (by decide) hg
 have e1':=h.re.grew hch (by decide) hg
 have p1:=h.s.pp.own.grew hch (by decide) hg
 have t1:=h.s.tb.own.grew hch (by decide) hg
 refine⟨e1'.other _ _ (fun q e=>by injection e with e;injection e with e;rw[← e];exact h.nr),h.nr,⟨c1'.set 1 _ (by show 1 < 3;omega),⟨h.s.pp.len,p1.other _ _ (p1.ne' c1' (by decide))⟩,⟨by rw[List.length_append,h.s.ch.len];rfl,ho.other _ _ (ho.ne' c1' (by decide))⟩,⟨h.s.tb.len,t1.other _ _ (t1.ne' c1' (by decide))⟩⟩,fun y hy=>?_,fun y hy=>?_,(h.be.trans hb).setCell (p:=⟨gc,1,none⟩) (c1'.obk_ge (b:=gc) rfl).1 _,⟨h.ok.l1,by show (C++[x]).length=n2+1;rw[List.length_append,h.s.ch.len];rfl,h.ok.l3,h.ok.pt,h.ok.tt,h.ok.m1,by show n2+1≤_;omega,h.ok.m3,h.ok.z.1,hn,h.ok.z.2.2⟩⟩
 ·refine(h.pt y hy).imp id fun q=>?_
  have p:=q.grew hch (by decide) hg
  exact p.other _ _ (p.ne' c1' (by decide))
 ·refine(h.tt y hy).imp id fun q=>?_
  have p:=q.grew hch (by decide) hg
  exact p.other _ _ (p.ne' c1' (by decide))
theorem CvO.tabs (h:CvO w0 gr gc ⟨A1,A2,A3,n1,n2,n3,c1,c2,c3,P,C,T⟩ w) {A':Option Addr} {c':Nat} {x:NdT} (hb:Below w0.heap.size w w') (hg:Grew A3 A' w w') (hx:x∈T) (ho:OwnV 54 1 w' w0.heap.size A' (n3+1) c' ((T++[x]).flatMap tcn)) (hn:(n3+1)*24≤140737488351232) :
  CvO w0 gr gc ⟨A1,A2,A',n1,n2,n3+1,c1,c2,c',P,C,T++[x]⟩ (w'.setCell ⟨gc,2,none⟩ (.slice A' (n3+1:Nat) c')):=by
 have htb:=h.s.tb.own
 have c1':=h.s.cf.grew htb (by decide) hg
 have e1':=h.re.grew htb (by decide) hg
 have p1:=h.s.pp.own.grew htb (by decide) hg
 have t1:=h.s.ch.own.grew htb (by decide) hg
 have hm:∀ y∈T++[x],y∈T:=fun y hy=>by
  rcases List.mem_append.1 hy with hy | hy
  ·exact hy
  ·obtain rfl:y=x:=by simpa using hy
   exact hx
 refine⟨e1'.other _ _ (fun q e=>by injection e with e;injection e with e;rw[← e];exact h.nr),h.nr,⟨c1'.set 2 _ (by show 2 < 3;omega),⟨h.s.pp.len,p1.other _ _ (p1.ne' c1' (by decide))⟩,⟨h.s.ch.len,t1.other _ _ (t1.ne' c1' (by decide))⟩,⟨by rw[List.length_append,h.s.tb.len];rfl,ho.other _ _ (ho.ne' c1' (by decide))⟩⟩,fun y hy=>?_,fun y hy=>?_,(h.be.trans hb).setCell (p:=⟨gc,2,none⟩) (c1'.obk_ge (b:=gc) rfl).1 _,⟨h.ok.l1,h.ok.l2,by show (T++[x]).length=n3+1;rw[List.length_append,h.s.tb.len];rfl,h.ok.pt,fun y hy=>h.ok.tt y (hm y hy),h.ok.m1,h.ok.m2,by show n3+1≤_;omega,h.ok.z.1,h.ok.z.2.1,hn,h.ok.z.2.2.2.1,fun y hy=>h.ok.z.2.2.2.2 y (hm y hy)⟩⟩
 ·refine(h.pt y hy).imp id fun q=>?_
  have p:=q.grew htb (by decide) hg
  exact p.other _ _ (p.ne' c1' (by decide))
 ·refine(h.tt y (hm y hy)).imp id fun q=>?_
  have p:=q.grew htb (by decide) hg
  exact p.other _ _ (p.ne' c1' (by decide))
theorem CvO.bare (h:CvO w0 gr gc ⟨A1,A2,A3,n1,n2,n3,c1,c2,c3,P,C,T⟩ w):CvO w0 gr gc ⟨A1,A2,none,n1,n2,0,c1,c2,0,P,C,[]⟩ (w.setCell ⟨gc,2,none⟩ (.slice none 0 0)) :=
 ⟨h.re.other _ _ (fun q e=>by injection e with e;injection e with e;rw[← e];exact h.nr),h.nr,⟨h.s.cf.set 2 _ (by show 2 < 3;omega),⟨h.s.pp.len,h.s.pp.own.other _ _ (h.s.pp.own.ne' h.s.cf (by decide))⟩,⟨h.s.ch.len,h.s.ch.own.other _ _ (h.s.ch.own.ne' h.s.cf (by decide))⟩,OwnB.nil _ _ _ _⟩,fun y hy=>(h.pt y hy).imp id fun q=>q.other _ _ (q.ne' h.s.cf (by decide)),(fun y hy=>by cases hy),h.be.setCell (p:=⟨gc,2,none⟩) (h.s.cf.obk_ge (b:=gc) rfl).1 _,
  ⟨h.ok.l1,h.ok.l2,rfl,h.ok.pt,(fun y hy=>by cases hy),h.ok.m1,h.ok.m2,Nat.zero_le _,h.ok.z.1,h.ok.z.2.1,by show 0*24≤_;omega,h.ok.z.2.2.2.1,(fun y hy=>by cases hy)⟩⟩
end
theorem CvO.pset {w0:World} {gr gc g i:Nat} {A1 A2 A3:Option Addr} {n1 n2 n3 c1 c2 c3:Nat} {P:List Pq} {C:List ChV} {T:List NdT} {w:World} (h:CvO w0 gr gc ⟨A1,A2,A3,n1,n2,n3,c1,c2,c3,P,C,T⟩ w) {x:Pq} (hx:P[i]? = some x) (hg:x.1.pa=some ⟨g,0,none⟩) (ho:OwnV 51 2 w w0.heap.size x.1.pa x.1.pn x.1.pc (x.2.flatMap prc))
  (hd:∀(j:Nat) (y:Pq),P[j]? = some y→j≠i→(RdV w0 w0.heap.size y.1.pa (y.2.flatMap prc)∧y.1.pn≤y.1.pc)) {k:Nat} {q q':Int×Int} {v:Value} {j:Nat} (hq:x.2[j]? = some q) (hk:k < 2) (hv:prc q'=(prc q).set k v) :
  CvO w0 gr gc ⟨A1,A2,A3,n1,n2,n3,c1,c2,c3,P.set i (x.1,x.2.set j q'),C,T⟩ (w.setCell ⟨g,j*2+k,none⟩ v):=by
 have hi:=(List.getElem?_eq_some_iff.1 hx).1
 have hob:OwnB 51 2 prc w w0.heap.size (some ⟨g,0,none⟩) x.1.pn x.1.pc x.2:=⟨(h.ok.pt x (List.mem_of_getElem? hx)).2.2.1,by rw[← hg];exact ho⟩
 have hst:=hob.put prc_len hq hk hv
 have hpr:=hob.own
 have hfl:(P.set i (x.1,x.2.set j q')).flatMap pcq=P.flatMap pcq:=by
  rw[pcq_map,pcq_map,List.map_set,set_self (by rw[List.getElem?_map,hx];rfl)]
 refine⟨h.re.other _ _ (h.re.ne' hpr (by decide)),h.nr,⟨h.s.cf.other _ _ (h.s.cf.ne' hpr (by decide)),⟨by show (P.set i _).length=n1;rw[List.length_set];exact h.s.pp.len,by show OwnV _ _ _ _ _ _ _ ((P.set i _).flatMap pcq);rw[hfl];exact h.s.pp.own.other _ _ (h.s.pp.own.ne' hpr (by decide))⟩,⟨h.s.ch.len,h.s.ch.own.other _ _ (h.s.ch.own.ne' hpr (by decide))⟩,⟨h.s.tb.len,h.s.tb.own.other _ _ (h.s.tb.own.ne' hpr (by decide))⟩⟩,fun z hz=>?_,fun z hz=>(h.tt z hz).imp id fun q=>q.other _ _ (q.ne' hpr (by decide)),h.be.setCell (p:=⟨g,j*2+k,none⟩) (hpr.obk_ge (b:=g) rfl).1 _,⟨by show (P.set i _).length=n1;rw[List.length_set];exact h.ok.l1,h.ok.l2,h.ok.l3,fun z hz=>?_,h.ok.tt,h.ok.m1,h.ok.m2,h.ok.m3,h.ok.z.1,h.ok.z.2.1,h.ok.z.2.2.1,fun z hz=>?_,h.ok.z.2.2.2.2⟩⟩
 ·obtain⟨a,ha⟩:=List.getElem?_of_mem hz
  rw[List.getElem?_set] at ha
  split at ha
  ·injection ha with ha
   subst ha
   refine .inr ?_
   show OwnV _ _ _ _ x.1.pa _ _ _
   rw[hg]
   exact hst.own
  ·rename_i hne
   exact .inl (hd a z ha (Ne.symm hne))
 ·rcases List.mem_or_eq_of_mem_set hz with hz | rfl
  ·exact h.ok.pt z hz
  ·have hk:=h.ok.pt x (List.mem_of_getElem? hx)
   exact⟨hk.1,hk.2.1,by rw[List.length_set];exact hk.2.2.1,hk.2.2.2⟩
 ·rcases List.mem_or_eq_of_mem_set hz with hz | rfl
  ·exact h.ok.z.2.2.2.1 z hz
  ·exact h.ok.z.2.2.2.1 x (List.mem_of_getElem? hx)
theorem CvO.procs {w0:World} {gr gc g i:Nat} {A2 A3:Option Addr} {n1 n2 n3 c1 c2 c3:Nat} {P:List Pq} {C:List ChV} {T:List NdT} {w w':World} (h:CvO w0 gr gc ⟨some ⟨g,0,none⟩,A2,A3,n1,n2,n3,c1,c2,c3,P,C,T⟩ w) {x:Pq} (hx:P[i]? = some x) (hown:OwnV 51 2 w w0.heap.size x.1.pa x.1.pn x.1.pc (x.2.flatMap prc))
  (hd:∀(j:Nat) (y:Pq),P[j]? = some y→j≠i→(RdV w0 w0.heap.size y.1.pa (y.2.flatMap prc)∧y.1.pn≤y.1.pc)) (hb:Below w0.heap.size w w') {A':Option Addr} {c':Nat} (hg:Grew x.1.pa A' w w') {L':List (Int×Int)} (ho:OwnV 51 2 w' w0.heap.size A' (x.1.pn+1) c' (L'.flatMap prc)) (hl:L'.length=x.1.pn+1) (hn:(x.1.pn+1)*16≤140737488351232) :
  CvO w0 gr gc ⟨some ⟨g,0,none⟩,A2,A3,n1,n2,n3,c1,c2,c3,P.set i ({ x.1 with pa:=A',pn:=x.1.pn+1,pc:=c' },L'),C,T⟩ (w'.setCell ⟨g,i*11+5,none⟩ (.slice A' (x.1.pn+1:Nat) c')):=by
 have hi:=(List.getElem?_eq_some_iff.1 hx).1
 have pp':=h.s.pp.own.grew hown (by decide) hg
 have re':=h.re.grew hown (by decide) hg
 have s':CpS w0.heap.size gc (some ⟨g,0,none⟩) A2 A3 n1 n2 n3 c1 c2 c3 P C T w':=⟨h.s.cf.grew hown (by decide) hg,⟨h.s.pp.len,pp'⟩,⟨h.s.ch.len,h.s.ch.own.grew hown (by decide) hg⟩,⟨h.s.tb.len,h.s.tb.own.grew hown (by decide) hg⟩⟩
 have hk:=h.ok.pt x (List.mem_of_getElem? hx)
 refine⟨re'.other _ _ (re'.ne' pp' (by decide)),h.nr,s'.put hx (by omega) rfl,fun z hz=>?_,fun z hz=>(h.tt z hz).imp id fun q=>?_,(h.be.trans hb).setCell (p:=⟨g,i*11+5,none⟩) (pp'.obk_ge (b:=g) rfl).1 _,⟨by show (P.set i _).length=n1;rw[List.length_set];exact h.ok.l1,h.ok.l2,h.ok.l3,fun z hz=>?_,h.ok.tt,h.ok.m1,h.ok.m2,h.ok.m3,h.ok.z.1,h.ok.z.2.1,h.ok.z.2.2.1,fun z hz=>?_,h.ok.z.2.2.2.2⟩⟩
 ·obtain⟨a,ha⟩:=List.getElem?_of_mem hz
  rw[List.getElem?_set] at ha
  split at ha
  ·injection ha with ha
   subst ha
   exact .inr (ho.other _ _ (ho.ne' pp' (by decide)))
  ·rename_i hne
   exact .inl (hd a z ha (Ne.symm hne))
 ·have p:=q.grew hown (by decide) hg
  exact p.other _ _ (p.ne' pp' (by decide))
 ·rcases List.mem_or_eq_of_mem_set hz with hz | rfl
  ·exact h.ok.pt z hz
  ·exact⟨hk.1,hk.2.1,hl,by show x.1.pn+1≤_;omega⟩
 ·rcases List.mem_or_eq_of_mem_set hz with hz | rfl
  ·exact h.ok.z.2.2.2.1 z hz
  ·exact hn
def lenAt (w:World) (g k:Nat):Nat:=match w.cell? ⟨g,k,none⟩ with
 | some (.slice _ n _)=>n
 | _=>0
theorem lenAt_eq {w:World} {g k n c:Nat} {A:Option Addr} (h:w.cell? ⟨g,k,none⟩=some (.slice A n c)):lenAt w g k=n:=by
 unfold lenAt
 rw[h]
end Go.Proofs.YtgoeikihjffeoaaGreat
