import Derived.Test.YtfmndmhjjbeokaaGreatDoorLow44
import Derived.Test.YtfmndmhjjbeokaaGreatDoorLow28
import Derived.Test.YtfmndmhjjbeokaaGreatDoorLow34
import Derived.Test.YtfmndmhjjbeokaaGreatDoorLow45
import Derived.Test.YtfmndmhjjbeokaaGreatDoorLow29
import Derived.Test.YtfmndmhjjbeokaaGreatDoorLow42
import Derived.Test.YtfmndmhjjbeokaaGreatDoorLow41
namespace Go.Proofs.YtfmndmhjjbeokaaGreatDoor
open Go.RowKit Tab
set_option linter.unusedSimpArgs false
set_option linter.unusedVariables false
theorem OwnV.ne {E E' s s' B B' n n' c c':Nat} {w:World} {A A':Option Addr} {l l':List Value} (h:OwnV E s w B A n c l) (h':OwnV E' s' w B' A' n' c' l') (hE:E≠E'):∀ k,obk A=some k→obk A'≠some k:=fun k hk hk'=>by
 rcases h.2 with ⟨hv,_⟩ | ⟨g,_,cur,hv,_,hg,_⟩
 ·injection hv with h1
  rw [h1] at hk
  cases hk
 ·rcases h'.2 with ⟨hv',_⟩ | ⟨g',_,cur',hv',_,hg',_⟩
  ·injection hv' with h1
   rw [h1] at hk'
   cases hk'
  ·injection hv with h1
   injection hv' with h2
   rw [h1] at hk
   rw [h2] at hk'
   have e1:g=k:=by injection hk
   have e2:g'=k:=by injection hk'
   subst e1
   subst e2
   rw [hg] at hg'
   injection hg' with hg'
   injection hg' with _ h3
   exact hE h3
theorem OwnV.ne' {E E' s s' B B' n n' c c' g:Nat} {w:World} {A:Option Addr} {l l':List Value} (h:OwnV E s w B A n c l) (h':OwnV E' s' w B' (some ⟨g,0,none⟩) n' c' l') (hE:E≠E'):∀ k,A=some ⟨k,0,none⟩→k≠g:=fun k e e2=>h.ne h' hE k (by rw [e];rfl) (by rw [e2];rfl)
structure CpS (B gc:Nat) (A1 A2 A3:Option Addr) (n1 n2 n3 c1 c2 c3:Nat) (Q:List Pq) (C:List ChV) (T:List NdT) (w:World):Prop where
 cf:OwnV 31 3 w B (some ⟨gc,0,none⟩) 1 1 [.slice A1 n1 c1,.slice A2 n2 c2,.slice A3 n3 c3]
 pp:OwnB 60 11 pcq w B A1 n1 c1 Q
 ch:OwnB 66 6 cc w B A2 n2 c2 C
 tb:OwnB 34 1 tcn w B A3 n3 c3 T
theorem CpS.on {B gc:Nat} {A1 A2 A3:Option Addr} {n1 n2 n3 c1 c2 c3:Nat} {Q:List Pq} {C:List ChV} {T:List NdT} {w w':World} (h:CpS B gc A1 A2 A3 n1 n2 n3 c1 c2 c3 Q C T w) (hb:Below w.heap.size w w'):CpS B gc A1 A2 A3 n1 n2 n3 c1 c2 c3 Q C T w' :=
 ⟨h.cf.below rfl hb,h.pp.below hb,h.ch.below hb,h.tb.below hb⟩
theorem CpS.cells {B gc:Nat} {A1 A2 A3:Option Addr} {n1 n2 n3 c1 c2 c3:Nat} {Q:List Pq} {C:List ChV} {T:List NdT} {w:World} (h:CpS B gc A1 A2 A3 n1 n2 n3 c1 c2 c3 Q C T w):w.cell? ⟨gc,0,none⟩=some (.slice A1 n1 c1)∧w.cell? ⟨gc,1,none⟩=some (.slice A2 n2 c2)∧w.cell? ⟨gc,2,none⟩=some (.slice A3 n3 c3) :=
 ⟨World.ownsRow.cellAt h.cf 0 (by omega),World.ownsRow.cellAt h.cf 1 (by omega),World.ownsRow.cellAt h.cf 2 (by omega)⟩
def Dj (l:List (Option Addr)):Prop:=∀ (i j:Nat) (a b:Option Addr),l[i]? = some a→l[j]? = some b→i≠j→∀ k,obk a=some k→obk b≠some k
theorem Dj.more {l:List (Option Addr)} {b:Option Addr} {h:Nat} (hl:Dj l) (h1:∀ a∈l,∀ k,obk a=some k→k < h) (h2:∀ k,obk b=some k→h≤k):Dj (l++[b]):=fun i j x y hx hy hij k hk hk'=>by
 have hx':=List.getElem?_append (l₁:=l) (l₂:=[b]) (i:=i)
 have hy':=List.getElem?_append (l₁:=l) (l₂:=[b]) (i:=j)
 rw [hx'] at hx
 rw [hy'] at hy
 split at hx
 ·split at hy
  ·exact hl i j x y hx hy hij k hk hk'
  ·have:=(List.getElem?_eq_some_iff.1 hy).1
   simp at this
   rw [show j - l.length=0 by omega] at hy
   simp at hy
   subst hy
   have:=h1 x (List.mem_of_getElem? hx) k hk
   have:=h2 k hk'
   omega
 ·have hz:=(List.getElem?_eq_some_iff.1 hx).1
  simp at hz
  rw [show i - l.length=0 by omega] at hx
  simp at hx
  subst hx
  split at hy
  ·have:=h1 y (List.mem_of_getElem? hy) k hk'
   have:=h2 k hk
   omega
  ·have hz2:=(List.getElem?_eq_some_iff.1 hy).1
   simp at hz2
   omega
theorem CpS.put {B gc g1:Nat} {A2 A3:Option Addr} {n1 n2 n3 c1 c2 c3:Nat} {Q:List Pq} {C:List ChV} {T:List NdT} {w:World} (h:CpS B gc (some ⟨g1,0,none⟩) A2 A3 n1 n2 n3 c1 c2 c3 Q C T w) {i k:Nat} {x y:Pq} {v:Value} (hx:Q[i]? = some x) (hk:k < 11) (hy:pcq y=(pcq x).set k v) :
  CpS B gc (some ⟨g1,0,none⟩) A2 A3 n1 n2 n3 c1 c2 c3 (Q.set i y) C T (w.setCell ⟨g1,i*11+k,none⟩ v) :=
 ⟨h.cf.other _ _ (h.cf.ne' h.pp.own (by decide)),h.pp.put pcq_len hx hk hy,⟨h.ch.len,h.ch.own.other _ _ (h.ch.own.ne' h.pp.own (by decide))⟩,⟨h.tb.len,h.tb.own.other _ _ (h.tb.own.ne' h.pp.own (by decide))⟩⟩
def CpV1 (B g0:Nat) (A1 A2 A3:Option Addr) (n1 n2 n3 c1 c2 c3:Nat) (P:List Pq) (C:List ChV) (T:List NdT) (opn:Nat) (vl:Value) (wv:World):Prop :=
 match opn with
 | 0=>vl=.pointer (some ⟨g0,0,none⟩)
 | 1=>vl=.slice A1 n1 c1
 | 2=>∃ (A':Option Addr) (c':Nat),vl=.slice A' n1 c'∧OwnV 60 11 wv B A' n1 c' (P.flatMap pcq)
 | 3=>vl=.pointer (some ⟨g0,1,none⟩)
 | 4=>vl=.slice A2 n2 c2
 | 5=>∃ (A':Option Addr) (c':Nat),vl=.slice A' n2 c'∧OwnV 66 6 wv B A' n2 c' (C.flatMap cc)
 | 6=>vl=.pointer (some ⟨g0,2,none⟩)
 | 7=>vl=.slice A3 n3 c3
 | 8=>∃ (A':Option Addr) (c':Nat),vl=.slice A' n3 c'∧OwnV 34 1 wv B A' n3 c' (T.flatMap tcn)
 | 9=>∃ (B1 B2 B3:Option Addr) (d1 d2 d3:Nat),vl=.agg #[.slice B1 n1 d1,.slice B2 n2 d2,.slice B3 n3 d3]∧OwnV 60 11 wv B B1 n1 d1 (P.flatMap pcq)∧OwnV 66 6 wv B B2 n2 d2 (C.flatMap cc)∧OwnV 34 1 wv B B3 n3 d3 (T.flatMap tcn)
 | _=>True
structure CpW1 (B:Nat) (W0:World) (n1 n2 n3:Nat) (P:List Pq) (C:List ChV) (T:List NdT) (live:Nat→Bool) (a:Act) (w:World):Prop where
 on:Below B W0 w
 un:live 10=true→live 11=false→∃ g,a.eval (.tmp 3)=.pointer (some ⟨g,0,none⟩)∧OwnV 31 3 w B (some ⟨g,0,none⟩) 1 1 [.slice none 0 0,.slice none 0 0,.slice none 0 0]
 at_:live 11=true→∃ (gc:Nat) (B1 B2 B3:Option Addr) (d1 d2 d3:Nat),a.eval (.tmp 3)=.pointer (some ⟨gc,0,none⟩)∧CpS B gc B1 B2 B3 n1 n2 n3 d1 d2 d3 P C T w
section
variable {B g0:Nat} {A1 A2 A3:Option Addr} {n1 n2 n3 c1 c2 c3:Nat} {P:List Pq} {C:List ChV} {T:List NdT} {w w' W0:World} {live:Nat→Bool} {a:Act}
theorem CpV1.on {j:Nat} {v:Value} (h:CpV1 B g0 A1 A2 A3 n1 n2 n3 c1 c2 c3 P C T j v w) (hb:Below w.heap.size w w'):CpV1 B g0 A1 A2 A3 n1 n2 n3 c1 c2 c3 P C T j v w':=by
 unfold CpV1 at h ⊢
 split at h
 case h_3=>obtain ⟨A',c',h1,h2⟩:=h;exact ⟨A',c',h1,h2.below rfl hb⟩
 case h_6=>obtain ⟨A',c',h1,h2⟩:=h;exact ⟨A',c',h1,h2.below rfl hb⟩
 case h_9=>obtain ⟨A',c',h1,h2⟩:=h;exact ⟨A',c',h1,h2.below rfl hb⟩
 case h_10=>obtain ⟨B1,B2,B3,d1,d2,d3,h0,h1,h2,h3⟩:=h;exact ⟨B1,B2,B3,d1,d2,d3,h0,h1.below rfl hb,h2.below rfl hb,h3.below rfl hb⟩
 all_goals exact h
theorem CpV1.set {j g k:Nat} {v u:Value} {l:List Value} (h:CpV1 B g0 A1 A2 A3 n1 n2 n3 c1 c2 c3 P C T j v w) (hg:OwnV 31 3 w B (some ⟨g,0,none⟩) 1 1 l):CpV1 B g0 A1 A2 A3 n1 n2 n3 c1 c2 c3 P C T j v (w.setCell ⟨g,k,none⟩ u):=by
 unfold CpV1 at h ⊢
 split at h
 case h_3=>obtain ⟨A',c',h1,h2⟩:=h;exact ⟨A',c',h1,h2.other _ _ (h2.ne' hg (by decide))⟩
 case h_6=>obtain ⟨A',c',h1,h2⟩:=h;exact ⟨A',c',h1,h2.other _ _ (h2.ne' hg (by decide))⟩
 case h_9=>obtain ⟨A',c',h1,h2⟩:=h;exact ⟨A',c',h1,h2.other _ _ (h2.ne' hg (by decide))⟩
 case h_10=>obtain ⟨B1,B2,B3,d1,d2,d3,h0,h1,h2,h3⟩:=h;exact ⟨B1,B2,B3,d1,d2,d3,h0,h1.other _ _ (h1.ne' hg (by decide)),h2.other _ _ (h2.ne' hg (by decide)),h3.other _ _ (h3.ne' hg (by decide))⟩
 all_goals exact h
theorem CpW1.upd (h:CpW1 B W0 n1 n2 n3 P C T live a w) (i:Nat) (d:Tmp) (v:Value) (hi:i≠10∧i≠11) (hd:d≠3):CpW1 B W0 n1 n2 n3 P C T (Rgs.upd live i) (a.put (some d) v) w:=by
 have e1:Rgs.upd live i 10=live 10:=by unfold Rgs.upd;simp [Ne.symm hi.1]
 have e2:Rgs.upd live i 11=live 11:=by unfold Rgs.upd;simp [Ne.symm hi.2]
 refine ⟨h.on,fun h1 h2=>?_,fun h1=>?_⟩
 ·rw [Reg.eval_other _ _ _ _ hd]
  exact h.un (e1▸h1) (e2▸h2)
 ·rw [Reg.eval_other _ _ _ _ hd]
  exact h.at_ (e2▸h1)
theorem CpW1.bel (h:CpW1 B W0 n1 n2 n3 P C T live a w) (hB:B≤W0.heap.size) (hb:Below w.heap.size w w'):CpW1 B W0 n1 n2 n3 P C T live a w':=by
 refine ⟨h.on.trans (hb.mono (Nat.le_trans hB h.on.size)),fun h1 h2=>?_,fun h1=>?_⟩
 ·obtain ⟨g,e,ho⟩:=h.un h1 h2
  exact ⟨g,e,ho.below rfl hb⟩
 ·obtain ⟨gc,B1,B2,B3,d1,d2,d3,e,ho⟩:=h.at_ h1
  exact ⟨gc,B1,B2,B3,d1,d2,d3,e,ho.on hb⟩
end
end Go.Proofs.YtfmndmhjjbeokaaGreatDoor
namespace Go.Proofs.YtfmndmhjjbeokaaGreatDoor
open Go.RowKit Tab
set_option linter.unusedSimpArgs false
set_option linter.unusedVariables false
structure CfC (x:Cf):Prop where
 l1:x.P.length=x.n1
 l2:x.C.length=x.n2
 l3:x.T.length=x.n3
 pt:∀ y∈x.P,In64 y.1.per∧y.1.name.size≤140737488351232∧y.2.length=y.1.pn∧y.1.pn≤140737488351232
 tt:∀ y∈x.T,y.l.length=y.n∧(∀ z∈y.l,NdIn z)∧y.n≤140737488351232
 m1:x.n1≤140737488351232
 m2:x.n2≤140737488351232
 m3:x.n3≤140737488351232
 z:SizX x
theorem CfC.of {w:World} {x:Cf} (h:CfR w x):CfC x :=
 ⟨h.pp.len,h.ch.len,h.tb.len,fun y hy=>⟨(h.pt y hy).1.per,(h.pt y hy).1.name,(h.pt y hy).1.procs.len,(h.pt y hy).2.2⟩,fun y hy=>⟨(h.tt y hy).rd.len,(h.tt y hy).rd.bd,(h.tt y hy).few⟩,h.m1,h.m2,h.m3,h.z⟩
structure CvS (B gc:Nat) (x:Cf) (w:World):Prop where
 s:CpS B gc x.A1 x.A2 x.A3 x.n1 x.n2 x.n3 x.c1 x.c2 x.c3 x.P x.C x.T w
 pt:∀ y∈x.P,OwnV 62 2 w B y.1.pa y.1.pn y.1.pc (y.2.flatMap prc)
 tt:∀ y∈x.T,OwnV 54 3 w B y.A y.n y.c (ns y.l)
 ok:CfC x
section
variable {B gc:Nat} {x:Cf} {w w':World}
theorem CvS.on (h:CvS B gc x w) (hb:Below w.heap.size w w'):CvS B gc x w':=⟨h.s.on hb,fun y hy=>(h.pt y hy).below rfl hb,fun y hy=>(h.tt y hy).below rfl hb,h.ok⟩
theorem CvS.r (h:CvS B gc x w):CfR w x :=
 ⟨h.s.pp.rdb,h.s.ch.rdb,h.s.tb.rdb,fun y hy=>⟨⟨(h.ok.pt y hy).1,(h.ok.pt y hy).2.1,⟨(h.ok.pt y hy).2.2.1,(h.pt y hy).rd⟩⟩,(h.pt y hy).cap,(h.ok.pt y hy).2.2.2⟩,fun y hy=>⟨⟨(h.ok.tt y hy).1,(h.tt y hy).rd,(h.ok.tt y hy).2.1⟩,(h.tt y hy).cap,(h.ok.tt y hy).2.2⟩,h.s.pp.cap,h.s.ch.cap,h.s.tb.cap,h.ok.m1,h.ok.m2,h.ok.m3,h.ok.z⟩
theorem CvS.new {x:Cf} {w:World} {B:Nat} (h:CfO w B x) (c:CfR w x) (hB:B≤w.heap.size):CvS B w.heap.size x (w.alloc (.cells #[.slice x.A1 x.n1 x.c1,.slice x.A2 x.n2 x.c2,.slice x.A3 x.n3 x.c3] 31)) :=
 have hb:=bl1 w (.cells #[.slice x.A1 x.n1 x.c1,.slice x.A2 x.n2 x.c2,.slice x.A3 x.n3 x.c3] 31)
 ⟨⟨ownV_lit w 31 3 B #[.slice x.A1 x.n1 x.c1,.slice x.A2 x.n2 x.c2,.slice x.A3 x.n3 x.c3] 1 rfl hB (by unfold maxLen;omega),⟨c.pp.len,h.pp.below rfl hb⟩,⟨c.ch.len,h.ch.below rfl hb⟩,⟨c.tb.len,h.tb.below rfl hb⟩⟩,fun y hy=>(h.pt y hy).1.below rfl hb,fun y hy=>(h.tt y hy).1.below rfl hb,CfC.of c⟩
end
section
variable {B gc g:Nat} {A1 A2 A3:Option Addr} {n1 n2 n3 c1 c2 c3:Nat} {P:List Pq} {C:List ChV} {T:List NdT} {w w':World}
theorem CvS.part (h:CvS B gc ⟨some ⟨g,0,none⟩,A2,A3,n1,n2,n3,c1,c2,c3,P,C,T⟩ w) {i k:Nat} {x y:Pq} {v:Value} (hx:P[i]? = some x) (hk:k < 11) (hy:pcq y=(pcq x).set k v) (ho:OwnV 62 2 w B y.1.pa y.1.pn y.1.pc (y.2.flatMap prc)) (hc:In64 y.1.per∧y.1.name.size≤140737488351232∧y.2.length=y.1.pn∧y.1.pn*16≤140737488351232) :
  CvS B gc ⟨some ⟨g,0,none⟩,A2,A3,n1,n2,n3,c1,c2,c3,P.set i y,C,T⟩ (w.setCell ⟨g,i*11+k,none⟩ v):=by
 have hpp:=h.s.pp.own
 refine ⟨h.s.put hx hk hy,fun z hz=>?_,fun z hz=>(h.tt z hz).other _ _ ((h.tt z hz).ne' hpp (by decide)),⟨by show (P.set i y).length=n1;rw [List.length_set];exact h.ok.l1,h.ok.l2,h.ok.l3,fun z hz=>?_,h.ok.tt,h.ok.m1,h.ok.m2,h.ok.m3,h.ok.z.1,h.ok.z.2.1,h.ok.z.2.2.1,fun z hz=>?_,h.ok.z.2.2.2.2⟩⟩
 ·rcases List.mem_or_eq_of_mem_set hz with hz | rfl
  ·exact (h.pt z hz).other _ _ ((h.pt z hz).ne' hpp (by decide))
  ·exact ho.other _ _ (ho.ne' hpp (by decide))
 ·rcases List.mem_or_eq_of_mem_set hz with hz | rfl
  ·exact h.ok.pt z hz
  ·exact ⟨hc.1,hc.2.1,hc.2.2.1,by omega⟩
 ·rcases List.mem_or_eq_of_mem_set hz with hz | rfl
  ·exact h.ok.z.2.2.2.1 z hz
  ·exact hc.2.2.2
theorem OwnV.grew {E E' s s' B B' n c:Nat} {A A0 A':Option Addr} {l l0:List Value} {n0 c0:Nat} (h:OwnV E s w B A n c l) (h0:OwnV E' s' w B' A0 n0 c0 l0) (hE:E≠E') (hg:Grew A0 A' w w'):OwnV E s w' B A n c l :=
 h.keep' fun k hk=>hg.keep (h.obk_ge hk).2 fun e=>h.ne h0 hE k hk e
theorem CvS.chan (h:CvS B gc ⟨A1,A2,A3,n1,n2,n3,c1,c2,c3,P,C,T⟩ w) {A':Option Addr} {c':Nat} {x:ChV} (hg:Grew A2 A' w w') (ho:OwnV 66 6 w' B A' (n2+1) c' ((C++[x]).flatMap cc)) (hn:(n2+1)*48≤140737488351232) :
  CvS B gc ⟨A1,A',A3,n1,n2+1,n3,c1,c',c3,P,C++[x],T⟩ (w'.setCell ⟨gc,1,none⟩ (.slice A' (n2+1:Nat) c')):=by
 have hch:=h.s.ch.own
 have c1':=h.s.cf.grew hch (by decide) hg
 have p1:=h.s.pp.own.grew hch (by decide) hg
 have t1:=h.s.tb.own.grew hch (by decide) hg
 refine ⟨⟨c1'.set 1 _ (by show 1 < 3;omega),⟨h.s.pp.len,p1.other _ _ (p1.ne' c1' (by decide))⟩,⟨by rw [List.length_append,h.s.ch.len];rfl,ho.other _ _ (ho.ne' c1' (by decide))⟩,⟨h.s.tb.len,t1.other _ _ (t1.ne' c1' (by decide))⟩⟩,fun y hy=>?_,fun y hy=>?_,⟨h.ok.l1,by show (C++[x]).length=n2+1;rw [List.length_append,h.s.ch.len];rfl,h.ok.l3,h.ok.pt,h.ok.tt,h.ok.m1,by show n2+1≤_;omega,h.ok.m3,h.ok.z.1,hn,h.ok.z.2.2⟩⟩
 ·have p:=(h.pt y hy).grew hch (by decide) hg
  exact p.other _ _ (p.ne' c1' (by decide))
 ·have p:=(h.tt y hy).grew hch (by decide) hg
  exact p.other _ _ (p.ne' c1' (by decide))
end
end Go.Proofs.YtfmndmhjjbeokaaGreatDoor
namespace Go.Proofs.YtfmndmhjjbeokaaGreatDoor
set_option maxRecDepth 100000
open Go.RowKit Tab Txt
set_option linter.unusedSimpArgs false
set_option linter.unusedVariables false
structure KpG (g gc:Nat) (A:Option Addr) (w w':World):Prop where
 os:w'.os=w.os
 tape:w'.tape=w.tape
 output:w'.output=w.output
 size:w.heap.size≤w'.heap.size
 block:∀ k,k < w.heap.size→k≠g→k≠gc→obk A≠some k→w'.heap[k]? = w.heap[k]?
section
variable {g gc:Nat} {A:Option Addr} {w w' w'':World}
theorem KpG.refl (w:World):KpG g gc A w w:=⟨rfl,rfl,rfl,Nat.le_refl _,fun _ _ _ _ _=>rfl⟩
theorem KpG.trans (h:KpG g gc A w w') (k:KpG g gc A w' w''):KpG g gc A w w'':=⟨k.os.trans h.os,k.tape.trans h.tape,k.output.trans h.output,Nat.le_trans h.size k.size,fun i hi h1 h2 h3=>(k.block i (Nat.lt_of_lt_of_le hi h.size) h1 h2 h3).trans (h.block i hi h1 h2 h3)⟩
theorem KpG.gb (h:w.grownBy w' (some g)):KpG g gc A w w':=⟨h.os,h.tape,h.output,h.size,fun i hi h1 _ _=>h.block i hi (by intro e;injection e with e;exact h1 e)⟩
theorem KpG.kpr (h:KpR gc A w w'):KpG g gc A w w':=⟨h.os,h.tape,h.output,h.size,fun i hi _ h2 h3=>h.block i hi h2 h3⟩
theorem KpG.bel (h:Below w.heap.size w w'):KpG g gc A w w':=⟨h.os,h.tape,h.output,h.size,fun i hi _ _ _=>h.block i hi⟩
theorem KpG.own {E s B n c:Nat} {A1:Option Addr} {l:List Value} (h:KpG g gc A w w') (ho:OwnV E s w B A1 n c l) (h1:obk A1≠some g) (h2:obk A1≠some gc) (h3:∀ k,obk A1=some k→obk A≠some k):OwnV E s w' B A1 n c l :=
 OwnV.keep' ho fun k hk=>h.block k (OwnV.older ho hk) (fun e=>h1 (by rw [hk,e])) (fun e=>h2 (by rw [hk,e])) (h3 k hk)
end
structure Ctn (x:Cf) (c:Cft):Prop where
 ep:x.P.map stripP=c.P
 ec:x.C=c.C
 et:x.T.map (fun t=>ndT0 t.l)=c.T
theorem Ctn.names {x:Cf} {c:Cft} (h:Ctn x c):namesP x.P=namesP c.P:=by rw [← h.ep,names_strip]
section
variable {B Br g gc:Nat} {st:Option (List UInt8)} {x:Cf} {w w':World}
theorem CvS.rdr (h:CvS B gc x w) (hr:RdrS Br g st w) (hg:w.grownBy w' (some g)):CvS B gc x w' :=
 ⟨⟨OwnV.gbo h.s.cf hg (apart_rd h.s.cf hr (by decide)),⟨h.s.pp.len,OwnV.gbo h.s.pp.own hg (apart_rd h.s.pp.own hr (by decide))⟩,⟨h.s.ch.len,OwnV.gbo h.s.ch.own hg (apart_rd h.s.ch.own hr (by decide))⟩,⟨h.s.tb.len,OwnV.gbo h.s.tb.own hg (apart_rd h.s.tb.own hr (by decide))⟩⟩,
  fun y hy=>OwnV.gbo (h.pt y hy) hg (apart_rd (h.pt y hy) hr (by decide)),fun y hy=>OwnV.gbo (h.tt y hy) hg (apart_rd (h.tt y hy) hr (by decide)),h.ok⟩
theorem apart_cf {E s B' n c:Nat} {A:Option Addr} {l:List Value} (h:OwnV E s w B' A n c l) (hc:CvS B gc x w) (hE:E≠31):obk A≠some gc:=fun e=>OwnV.apart h hc.s.cf hE gc e rfl
end
section
variable {B Br g gc:Nat} {st:Option (List UInt8)} {A1 A2 A3 A':Option Addr} {n1 n2 n3 c1 c2 c3 c':Nat} {P:List Pq} {C:List ChV} {T:List NdT} {w w':World}
theorem CvS.part1 (h:CvS B gc ⟨A1,A2,A3,n1,n2,n3,c1,c2,c3,P,C,T⟩ w) (hr:RdrS Br g st w) (hk:KpG g gc A1 w w') (y:Pq) (hp:OwnV 60 11 w' B A' (n1+1) c' (P.flatMap pcq++pcq y))
  (hcf:OwnV 31 3 w' B (some ⟨gc,0,none⟩) 1 1 [.slice A' (n1+1:Nat) c',.slice A2 n2 c2,.slice A3 n3 c3]) (hy:OwnV 62 2 w' B y.1.pa y.1.pn y.1.pc (y.2.flatMap prc))
  (hc:In64 y.1.per∧y.1.name.size≤140737488351232∧y.2.length=y.1.pn∧y.1.pn*16≤140737488351232) (hn:(n1+1)*104≤140737488351232):CvS B gc ⟨A',A2,A3,n1+1,n2,n3,c',c2,c3,P++[y],C,T⟩ w':=by
 have hpp:=h.s.pp.own
 have o:∀ {E s n c:Nat} {A:Option Addr} {l:List Value},OwnV E s w B A n c l→E≠79→E≠31→E≠60→OwnV E s w' B A n c l:=fun q e1 e2 e3=>hk.own q (apart_rd q hr e1) (apart_cf q h e2) (OwnV.apart q hpp e3)
 refine ⟨⟨hcf,⟨by rw [List.length_append,h.s.pp.len];rfl,by rw [List.flatMap_append];simpa using hp⟩,⟨h.s.ch.len,o h.s.ch.own (by decide) (by decide) (by decide)⟩,⟨h.s.tb.len,o h.s.tb.own (by decide) (by decide) (by decide)⟩⟩,fun z hz=>?_,fun z hz=>o (h.tt z hz) (by decide) (by decide) (by decide),⟨by show (P++[y]).length=n1+1;rw [List.length_append,h.s.pp.len];rfl,h.ok.l2,h.ok.l3,fun z hz=>?_,h.ok.tt,by show n1+1≤_;omega,h.ok.m2,h.ok.m3,hn,h.ok.z.2.1,h.ok.z.2.2.1,fun z hz=>?_,h.ok.z.2.2.2.2⟩⟩
 ·rcases List.mem_append.1 hz with hz | hz
  ·exact o (h.pt z hz) (by decide) (by decide) (by decide)
  ·rw [List.mem_singleton.1 hz];exact hy
 ·rcases List.mem_append.1 hz with hz | hz
  ·exact h.ok.pt z hz
  ·rw [List.mem_singleton.1 hz];exact ⟨hc.1,hc.2.1,hc.2.2.1,by omega⟩
 ·rcases List.mem_append.1 hz with hz | hz
  ·exact h.ok.z.2.2.2.1 z hz
  ·rw [List.mem_singleton.1 hz];exact hc.2.2.2
theorem CvS.chan1 (h:CvS B gc ⟨A1,A2,A3,n1,n2,n3,c1,c2,c3,P,C,T⟩ w) (hr:RdrS Br g st w) (hk:KpG g gc A2 w w') (y:ChV) (hp:OwnV 66 6 w' B A' (n2+1) c' (C.flatMap cc++cc y))
  (hcf:OwnV 31 3 w' B (some ⟨gc,0,none⟩) 1 1 [.slice A1 n1 c1,.slice A' (n2+1:Nat) c',.slice A3 n3 c3]) (hn:(n2+1)*48≤140737488351232):CvS B gc ⟨A1,A',A3,n1,n2+1,n3,c1,c',c3,P,C++[y],T⟩ w':=by
 have hpp:=h.s.ch.own
 have o:∀ {E s n c:Nat} {A:Option Addr} {l:List Value},OwnV E s w B A n c l→E≠79→E≠31→E≠66→OwnV E s w' B A n c l:=fun q e1 e2 e3=>hk.own q (apart_rd q hr e1) (apart_cf q h e2) (OwnV.apart q hpp e3)
 exact ⟨⟨hcf,⟨h.s.pp.len,o h.s.pp.own (by decide) (by decide) (by decide)⟩,⟨by rw [List.length_append,h.s.ch.len];rfl,by rw [List.flatMap_append];simpa using hp⟩,⟨h.s.tb.len,o h.s.tb.own (by decide) (by decide) (by decide)⟩⟩,fun z hz=>o (h.pt z hz) (by decide) (by decide) (by decide),fun z hz=>o (h.tt z hz) (by decide) (by decide) (by decide),⟨h.ok.l1,by show (C++[y]).length=n2+1;rw [List.length_append,h.s.ch.len];rfl,h.ok.l3,h.ok.pt,h.ok.tt,h.ok.m1,by show n2+1≤_;omega,h.ok.m3,h.ok.z.1,hn,h.ok.z.2.2.1,h.ok.z.2.2.2.1,h.ok.z.2.2.2.2⟩⟩
theorem CvS.tab1 (h:CvS B gc ⟨A1,A2,A3,n1,n2,n3,c1,c2,c3,P,C,T⟩ w) (hr:RdrS Br g st w) (hk:KpG g gc A3 w w') (y:NdT) (hp:OwnV 34 1 w' B A' (n3+1) c' (T.flatMap tcn++tcn y))
  (hcf:OwnV 31 3 w' B (some ⟨gc,0,none⟩) 1 1 [.slice A1 n1 c1,.slice A2 n2 c2,.slice A' (n3+1:Nat) c']) (hy:OwnV 54 3 w' B y.A y.n y.c (ns y.l)) (hl:y.l.length=y.n) (hz:∀ z∈y.l,NdIn z) (hq:y.n*24≤140737488351232) (hn:(n3+1)*24≤140737488351232):CvS B gc ⟨A1,A2,A',n1,n2,n3+1,c1,c2,c',P,C,T++[y]⟩ w':=by
 have hpp:=h.s.tb.own
 have o:∀ {E s n c:Nat} {A:Option Addr} {l:List Value},OwnV E s w B A n c l→E≠79→E≠31→E≠34→OwnV E s w' B A n c l:=fun q e1 e2 e3=>hk.own q (apart_rd q hr e1) (apart_cf q h e2) (OwnV.apart q hpp e3)
 refine ⟨⟨hcf,⟨h.s.pp.len,o h.s.pp.own (by decide) (by decide) (by decide)⟩,⟨h.s.ch.len,o h.s.ch.own (by decide) (by decide) (by decide)⟩,⟨by rw [List.length_append,h.s.tb.len];rfl,by rw [List.flatMap_append];simpa using hp⟩⟩,fun z hz=>o (h.pt z hz) (by decide) (by decide) (by decide),fun z hz=>?_,⟨h.ok.l1,h.ok.l2,by show (T++[y]).length=n3+1;rw [List.length_append,h.s.tb.len];rfl,h.ok.pt,fun z hz=>?_,h.ok.m1,h.ok.m2,by show n3+1≤_;omega,h.ok.z.1,h.ok.z.2.1,hn,h.ok.z.2.2.2.1,fun z hz=>?_⟩⟩
 ·rcases List.mem_append.1 hz with hz | hz
  ·exact o (h.tt z hz) (by decide) (by decide) (by decide)
  ·rw [List.mem_singleton.1 hz];exact hy
 ·rcases List.mem_append.1 hz with hz | hz
  ·exact h.ok.tt z hz
  ·rw [List.mem_singleton.1 hz];exact ⟨hl,‹_›,by omega⟩
 ·rcases List.mem_append.1 hz with hz | hz
  ·exact h.ok.z.2.2.2.2 z hz
  ·rw [List.mem_singleton.1 hz];exact hq
end
structure KpL (g gc:Nat) (x:Cf) (w w':World):Prop where
 os:w'.os=w.os
 tape:w'.tape=w.tape
 output:w'.output=w.output
 size:w.heap.size≤w'.heap.size
 block:∀ k,k < w.heap.size→k≠g→k≠gc→obk x.A1≠some k→obk x.A2≠some k→obk x.A3≠some k→w'.heap[k]? = w.heap[k]?
theorem KpL.of {g gc:Nat} {x:Cf} {A:Option Addr} {w w':World} (h:KpG g gc A w w') (hA:A=x.A1∨A=x.A2∨A=x.A3):KpL g gc x w w' :=
 ⟨h.os,h.tape,h.output,h.size,fun k hk h1 h2 h3 h4 h5=>h.block k hk h1 h2 (by rcases hA with rfl | rfl | rfl <;> assumption)⟩
def LineX (B Br g gc:Nat) (R:Option (Cft×List UInt8)) (x:Cf) (w:World) (e:Ending) (w':World):Prop:=e=.returned (.tuple #[])∧∃ st':Option (List UInt8),st'=R.map (·.2)∧RdrS Br g st' w'∧KpL g gc x w w' ∧
 ∀ c' r,R=some (c',r)→∃ x',CvS B gc x' w'∧Ctn x' c'∧x'.n1+(x'.n2+x'.n3)≤x.n1+(x.n2+x.n3)+1
end Go.Proofs.YtfmndmhjjbeokaaGreatDoor
