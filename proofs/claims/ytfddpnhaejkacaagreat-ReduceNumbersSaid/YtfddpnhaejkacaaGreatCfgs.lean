import Derived.Test.YtfddpnhaejkacaaGreatLow12
set_option linter.unusedSimpArgs false
set_option linter.unusedVariables false
namespace Go.Proofs.YtfddpnhaejkacaaGreat
open Go.RowKit Tab
def box3 (v0 v1 v2:Value) (j:Nat):Value:=if j=0 then v0 else if j=1 then v1 else v2
structure CfgS (B b:Nat) (A:Option Addr) (m c:Nat) (f:Nat→Int) (w:World) (gr gc BB:Nat) (A1 A2 A3:Option Addr) (n1 n2 n3 c1 c2 c3:Nat) (P:List PtV) (C:List ChV) (T:List TbV) (wr:World):Prop where
 tp:∃ at_,TapeW wr B b A m c f at_
 gb:w.grownBy wr (some b)
 cf:Vec wr gc 3 (box3 (.slice A1 n1 c1) (.slice A2 n2 c2) (.slice A3 n3 c3))
 rs:Vec wr gr 3 (box3 (.slice none 0 0) (.slice none 0 0) (.slice none 0 0))
 pp:OwnB 68 11 pcl wr BB A1 n1 c1 P
 ch:OwnB 42 6 cc wr BB A2 n2 c2 C
 tb:OwnB 37 1 tcl wr BB A3 n3 c3 T
 pt:∀ x∈P,PtAt wr wr.heap.size x∧∀ k,obk x.pa=some k→BB≤k∧k < wr.heap.size∧obk A1≠some k∧obk A2≠some k∧obk A3≠some k
 tt:∀ t∈T,(TbAt wr wr.heap.size t∧Frame t)∧∀ k,obk t.A=some k→BB≤k∧k < wr.heap.size∧obk A1≠some k∧obk A2≠some k∧obk A3≠some k
 d12:∀ k,obk A1=some k→obk A2≠some k
 d13:∀ k,obk A1=some k→obk A3≠some k
 d23:∀ k,obk A2=some k→obk A3≠some k
structure CfgB (b:Nat) (w:World) (gr gc BB:Nat):Prop where
 br:b < gr
 wr:gr=w.heap.size
 rc:gc=gr+1
 cB:BB=gc+1
section
variable {B b:Nat} {A:Option Addr} {m c:Nat} {f:Nat→Int} {w:World} {gr gc BB:Nat} {A1 A2 A3:Option Addr} {n1 n2 n3 c1 c2 c3:Nat} {P:List PtV} {C:List ChV} {T:List TbV} {wr w':World}
theorem PtAt.only {p:Nat→Prop} {x:PtV} (h:PtAt wr wr.heap.size x) (ho:Only p wr w') (hA:∀ b,obk x.pa=some b→¬ p b):PtAt w' w'.heap.size x:=⟨h.per,h.name,h.few,h.procs.only ho hA⟩
theorem TbAt.only {p:Nat→Prop} {t:TbV} (h:TbAt wr wr.heap.size t) (ho:Only p wr w') (hA:∀ b,obk t.A=some b→¬ p b):TbAt w' w'.heap.size t:=⟨⟨h.rd.len,ho.rdv (B:=0) h.rd.rd hA,h.rd.bd⟩,h.cap,h.ok,h.few⟩
theorem CfgS.only (h:CfgS B b A m c f w gr gc BB A1 A2 A3 n1 n2 n3 c1 c2 c3 P C T wr) (hB:CfgB b w gr gc BB) (ho:Only (fun k=>k=b) wr w') (ht:∃ at_,TapeW w' B b A m c f at_):CfgS B b A m c f w gr gc BB A1 A2 A3 n1 n2 n3 c1 c2 c3 P C T w':=by
 have h1:=hB.br
 have h2:=hB.wr
 have h3:=hB.rc
 have h4:=hB.cB
 have hs:=h.gb.size
 refine⟨ht,⟨ho.os.trans h.gb.os,ho.tape.trans h.gb.tape,ho.output.trans h.gb.output,Nat.le_trans h.gb.size ho.size,fun k hk hne=>(ho.block k (by omega) fun e=>hne (by rw[e])).trans (h.gb.block k hk hne)⟩,
  h.cf.keep (ho.block gc h.cf.lt (by omega)) ho.size,h.rs.keep (ho.block gr h.rs.lt (by omega)) ho.size,⟨h.pp.len,h.pp.own.keep fun k hk hl=>ho.block k hl (by omega)⟩,⟨h.ch.len,h.ch.own.keep fun k hk hl=>ho.block k hl (by omega)⟩,⟨h.tb.len,h.tb.own.keep fun k hk hl=>ho.block k hl (by omega)⟩,fun x hx=>?_,fun t ht=>?_,h.d12,h.d13,h.d23⟩
 ·obtain⟨p1,p2⟩:=h.pt x hx
  exact⟨p1.only ho fun k hk e=>by have:=(p2 k hk).1;omega,fun k hk=>⟨(p2 k hk).1,Nat.lt_of_lt_of_le (p2 k hk).2.1 ho.size,(p2 k hk).2.2⟩⟩
 ·obtain⟨p1,p2⟩:=h.tt t ht
  exact⟨⟨p1.1.only ho fun k hk e=>by have:=(p2 k hk).1;omega,p1.2⟩,fun k hk=>⟨(p2 k hk).1,Nat.lt_of_lt_of_le (p2 k hk).2.1 ho.size,(p2 k hk).2.2⟩⟩
theorem CfgS.bel (h:CfgS B b A m c f w gr gc BB A1 A2 A3 n1 n2 n3 c1 c2 c3 P C T wr) (hB:CfgB b w gr gc BB) (hb:Below wr.heap.size wr w'):CfgS B b A m c f w gr gc BB A1 A2 A3 n1 n2 n3 c1 c2 c3 P C T w':=by
 obtain⟨at_,ht⟩:=h.tp
 exact h.only hB (Only.bel hb) ⟨at_,ht.below hb ht.lt⟩
theorem CfgS.next (h:CfgS B b A m c f w gr gc BB A1 A2 A3 n1 n2 n3 c1 c2 c3 P C T wr) (hB:CfgB b w gr gc BB) {at_:Nat} (ht:TapeW w' B b A m c f at_) (hg:wr.grownBy w' (some b)):CfgS B b A m c f w gr gc BB A1 A2 A3 n1 n2 n3 c1 c2 c3 P C T w' :=
 h.only hB (Only.gb hg rfl) ⟨at_,ht⟩
theorem Grew.keep {A0 A':Option Addr} {k:Nat} (hg:Grew A0 A' wr w') (hk:k < wr.heap.size) (hn:obk A0≠some k):w'.heap[k]? = wr.heap[k]?:=hg.gb.block k hk fun e=>hn e.symm
theorem Grew.apart {A0 A':Option Addr} {k:Nat} (hg:Grew A0 A' wr w') (hk:k < wr.heap.size) (hn:obk A0≠some k):obk A'≠some k:=by
 rcases hg.at_ with e | ⟨g,e,h⟩
 ·rw[e];exact hn
 ·rw[e];intro e2;injection e2 with e2;omega
theorem Grew.apart' {A0 A' D:Option Addr} (hg:Grew A0 A' wr w') (hD:∀ k,obk D=some k→k < wr.heap.size) (hn:∀ k,obk A0=some k→obk D≠some k):∀ k,obk A'=some k→obk D≠some k:=fun k e e2=>by
 rcases hg.at_ with e3 | ⟨g,e3,h⟩
 ·exact hn k (by rw[← e3];exact e) e2
 ·have:=hD k e2
  rw[e3] at e
  injection e with e
  omega
theorem CfgS.part (h:CfgS B b A m c f w gr gc BB A1 A2 A3 n1 n2 n3 c1 c2 c3 P C T wr) (hB:CfgB b w gr gc BB) {A':Option Addr} {c':Nat} {x:PtV} (hg:Grew A1 A' wr w') (ho:OwnV 68 11 w' BB A' (n1+1) c' ((P++[x]).flatMap pcl)) (hx:PtAt wr wr.heap.size x∧∀ k,obk x.pa=some k→BB≤k∧k < wr.heap.size∧obk A1≠some k∧obk A2≠some k∧obk A3≠some k) :
  CfgS B b A m c f w gr gc BB A' A2 A3 (n1+1) n2 n3 c' c2 c3 (P++[x]) C T (w'.setCell ⟨gc,0,none⟩ (.slice A' (n1+1) c')):=by
 have h1:=hB.br
 have h2:=hB.wr
 have h3:=hB.rc
 have h4:=hB.cB
 have hs:=h.gb.size
 have hgc:obk A1≠some gc:=fun e=>by have:=(h.pp.own.obk_ge e).1;omega
 have hgc':obk A'≠some gc:=hg.apart h.cf.lt hgc
 have hlo:∀ k,k < BB→k < wr.heap.size→w'.heap[k]? = wr.heap[k]?:=fun k hk hl=>hg.keep hl fun e=>by have:=(h.pp.own.obk_ge e).1;omega
 have hset:∀ k v,k≠gc→(w'.setCell ⟨gc,0,none⟩ v).heap[k]? = w'.heap[k]?:=fun k v hk=>Below.heap_setCell _ _ _ _ hk
 have hss:∀ v,(w'.setCell ⟨gc,0,none⟩ v).heap.size=w'.heap.size:=fun v=>by simp
 have hon:∀ v,Only (fun k=>obk A1=some k∨k=gc) wr (w'.setCell ⟨gc,0,none⟩ v):=fun v=>⟨hg.gb.os,hg.gb.tape,hg.gb.output,by rw[hss];exact hg.gb.size,fun k hk hn=>(hset k v fun e=>hn (.inr e)).trans (hg.keep hk fun e=>hn (.inl e))⟩
 have hkeep:∀ v k,k < wr.heap.size→obk A1≠some k→k≠gc→(w'.setCell ⟨gc,0,none⟩ v).heap[k]? = wr.heap[k]?:=fun v k hk h1 h2=>(hset k v h2).trans (hg.keep hk h1)
 obtain⟨at_,ht⟩:=h.tp
 refine⟨⟨at_,ht.below (Bs:=gc) ⟨hg.gb.os,hg.gb.tape,hg.gb.output,by rw[hss];exact hg.gb.size,fun k hk=>(hset k _ (by omega)).trans (hlo k (by omega) (by have:=h.cf.lt;omega))⟩ (by omega)⟩,⟨hg.gb.os.trans h.gb.os,hg.gb.tape.trans h.gb.tape,hg.gb.output.trans h.gb.output,by rw[hss];exact Nat.le_trans h.gb.size hg.gb.size,fun k hk hne=>((hset k _ (by omega)).trans (hlo k (by omega) (by omega))).trans (h.gb.block k hk hne)⟩,
  ((h.cf.keep (hg.keep h.cf.lt hgc) hg.gb.size).set 0 _).congr fun j hj=>?_,h.rs.keep (hkeep _ gr h.rs.lt (fun e=>by have:=(h.pp.own.obk_ge e).1;omega) (by omega)) (by rw[hss];exact hg.gb.size),⟨by rw[List.length_append,h.pp.len];rfl,ho.other ⟨gc,0,none⟩ _ fun g e e2=>hgc' (by rw[e];exact congrArg some e2)⟩,⟨h.ch.len,h.ch.own.keep' fun k hk=>hkeep _ k (h.ch.own.obk_ge hk).2 (fun e=>h.d12 k e hk) (by have:=(h.ch.own.obk_ge hk).1;omega)⟩,⟨h.tb.len,h.tb.own.keep' fun k hk=>hkeep _ k (h.tb.own.obk_ge hk).2 (fun e=>h.d13 k e hk) (by have:=(h.tb.own.obk_ge hk).1;omega)⟩,fun y hy=>?_,fun y hy=>?_,hg.apart' (fun k hk=>(h.ch.own.obk_ge hk).2) h.d12,hg.apart' (fun k hk=>(h.tb.own.obk_ge hk).2) h.d13,h.d23⟩
 ·unfold put1 box3
  rcases(by omega:j=0∨j=1∨j=2) with rfl | rfl | rfl <;> rfl
 ·rcases List.mem_append.1 hy with hy | hy
  ·obtain⟨p1,p2⟩:=h.pt y hy
   exact⟨p1.only (hon _) (fun k hk e=>by
     rcases e with e | e
     ·exact(p2 k hk).2.2.1 e
     ·have:=(p2 k hk).1;omega),fun k hk=>⟨(p2 k hk).1,by rw[hss];exact Nat.lt_of_lt_of_le (p2 k hk).2.1 hg.gb.size,hg.apart (p2 k hk).2.1 (p2 k hk).2.2.1,(p2 k hk).2.2.2.1,(p2 k hk).2.2.2.2⟩⟩
  ·simp at hy
   subst hy
   obtain⟨p1,p2⟩:=hx
   exact⟨p1.only (hon _) (fun k hk e=>by
     rcases e with e | e
     ·exact(p2 k hk).2.2.1 e
     ·have:=(p2 k hk).1;omega),fun k hk=>⟨(p2 k hk).1,by rw[hss];exact Nat.lt_of_lt_of_le (p2 k hk).2.1 hg.gb.size,hg.apart (p2 k hk).2.1 (p2 k hk).2.2.1,(p2 k hk).2.2.2.1,(p2 k hk).2.2.2.2⟩⟩
 ·obtain⟨p1,p2⟩:=h.tt y hy
  exact⟨⟨p1.1.only (hon _) (fun k hk e=>by
    rcases e with e | e
    ·exact(p2 k hk).2.2.1 e
    ·have:=(p2 k hk).1;omega),p1.2⟩,fun k hk=>⟨(p2 k hk).1,by rw[hss];exact Nat.lt_of_lt_of_le (p2 k hk).2.1 hg.gb.size,hg.apart (p2 k hk).2.1 (p2 k hk).2.2.1,(p2 k hk).2.2.2.1,(p2 k hk).2.2.2.2⟩⟩
theorem CfgS.chan (h:CfgS B b A m c f w gr gc BB A1 A2 A3 n1 n2 n3 c1 c2 c3 P C T wr) (hB:CfgB b w gr gc BB) {A':Option Addr} {c':Nat} {x:ChV} (hg:Grew A2 A' wr w') (ho:OwnV 42 6 w' BB A' (n2+1) c' ((C++[x]).flatMap cc)) :
  CfgS B b A m c f w gr gc BB A1 A' A3 n1 (n2+1) n3 c1 c' c3 P (C++[x]) T (w'.setCell ⟨gc,1,none⟩ (.slice A' (n2+1) c')):=by
 have h1:=hB.br
 have h2:=hB.wr
 have h3:=hB.rc
 have h4:=hB.cB
 have hs:=h.gb.size
 have hgc:obk A2≠some gc:=fun e=>by have:=(h.ch.own.obk_ge e).1;omega
 have hgc':obk A'≠some gc:=hg.apart h.cf.lt hgc
 have hlo:∀ k,k < BB→k < wr.heap.size→w'.heap[k]? = wr.heap[k]?:=fun k hk hl=>hg.keep hl fun e=>by have:=(h.ch.own.obk_ge e).1;omega
 have hset:∀ k v,k≠gc→(w'.setCell ⟨gc,1,none⟩ v).heap[k]? = w'.heap[k]?:=fun k v hk=>Below.heap_setCell _ _ _ _ hk
 have hss:∀ v,(w'.setCell ⟨gc,1,none⟩ v).heap.size=w'.heap.size:=fun v=>by simp
 have hon:∀ v,Only (fun k=>obk A2=some k∨k=gc) wr (w'.setCell ⟨gc,1,none⟩ v):=fun v=>⟨hg.gb.os,hg.gb.tape,hg.gb.output,by rw[hss];exact hg.gb.size,fun k hk hn=>(hset k v fun e=>hn (.inr e)).trans (hg.keep hk fun e=>hn (.inl e))⟩
 have hkeep:∀ v k,k < wr.heap.size→obk A2≠some k→k≠gc→(w'.setCell ⟨gc,1,none⟩ v).heap[k]? = wr.heap[k]?:=fun v k hk h1 h2=>(hset k v h2).trans (hg.keep hk h1)
 obtain⟨at_,ht⟩:=h.tp
 refine⟨⟨at_,ht.below (Bs:=gc) ⟨hg.gb.os,hg.gb.tape,hg.gb.output,by rw[hss];exact hg.gb.size,fun k hk=>(hset k _ (by omega)).trans (hlo k (by omega) (by have:=h.cf.lt;omega))⟩ (by omega)⟩,⟨hg.gb.os.trans h.gb.os,hg.gb.tape.trans h.gb.tape,hg.gb.output.trans h.gb.output,by rw[hss];exact Nat.le_trans h.gb.size hg.gb.size,fun k hk hne=>((hset k _ (by omega)).trans (hlo k (by omega) (by omega))).trans (h.gb.block k hk hne)⟩,
  ((h.cf.keep (hg.keep h.cf.lt hgc) hg.gb.size).set 1 _).congr fun j hj=>?_,h.rs.keep (hkeep _ gr h.rs.lt (fun e=>by have:=(h.ch.own.obk_ge e).1;omega) (by omega)) (by rw[hss];exact hg.gb.size),⟨h.pp.len,h.pp.own.keep' fun k hk=>hkeep _ k (h.pp.own.obk_ge hk).2 (fun e=>h.d12 k hk e) (by have:=(h.pp.own.obk_ge hk).1;omega)⟩,⟨by rw[List.length_append,h.ch.len];rfl,ho.other ⟨gc,1,none⟩ _ fun g e e2=>hgc' (by rw[e];exact congrArg some e2)⟩,⟨h.tb.len,h.tb.own.keep' fun k hk=>hkeep _ k (h.tb.own.obk_ge hk).2 (fun e=>h.d23 k e hk) (by have:=(h.tb.own.obk_ge hk).1;omega)⟩,fun y hy=>?_,fun y hy=>?_,fun k hk e=>hg.apart' (D:=A1) (fun k hk=>(h.pp.own.obk_ge hk).2) (fun k e e2=>h.d12 k e2 e) k e hk,h.d13,hg.apart' (fun k hk=>(h.tb.own.obk_ge hk).2) h.d23⟩
 ·unfold put1 box3
  rcases(by omega:j=0∨j=1∨j=2) with rfl | rfl | rfl <;> rfl
 ·obtain⟨p1,p2⟩:=h.pt y hy
  exact⟨p1.only (hon _) (fun k hk e=>by
    rcases e with e | e
    ·exact(p2 k hk).2.2.2.1 e
    ·have:=(p2 k hk).1;omega),fun k hk=>⟨(p2 k hk).1,by rw[hss];exact Nat.lt_of_lt_of_le (p2 k hk).2.1 hg.gb.size,(p2 k hk).2.2.1,hg.apart (p2 k hk).2.1 (p2 k hk).2.2.2.1,(p2 k hk).2.2.2.2⟩⟩
 ·obtain⟨p1,p2⟩:=h.tt y hy
  exact⟨⟨p1.1.only (hon _) (fun k hk e=>by
    rcases e with e | e
    ·exact(p2 k hk).2.2.2.1 e
    ·have:=(p2 k hk).1;omega),p1.2⟩,fun k hk=>⟨(p2 k hk).1,by rw[hss];exact Nat.lt_of_lt_of_le (p2 k hk).2.1 hg.gb.size,(p2 k hk).2.2.1,hg.apart (p2 k hk).2.1 (p2 k hk).2.2.2.1,(p2 k hk).2.2.2.2⟩⟩
theorem CfgS.tabl (h:CfgS B b A m c f w gr gc BB A1 A2 A3 n1 n2 n3 c1 c2 c3 P C T wr) (hB:CfgB b w gr gc BB) {A':Option Addr} {c':Nat} {x:TbV} (hg:Grew A3 A' wr w') (ho:OwnV 37 1 w' BB A' (n3+1) c' ((T++[x]).flatMap tcl)) (hx:(TbAt wr wr.heap.size x∧Frame x)∧∀ k,obk x.A=some k→BB≤k∧k < wr.heap.size∧obk A1≠some k∧obk A2≠some k∧obk A3≠some k) :
  CfgS B b A m c f w gr gc BB A1 A2 A' n1 n2 (n3+1) c1 c2 c' P C (T++[x]) (w'.setCell ⟨gc,2,none⟩ (.slice A' (n3+1) c')):=by
 have h1:=hB.br
 have h2:=hB.wr
 have h3:=hB.rc
 have h4:=hB.cB
 have hs:=h.gb.size
 have hgc:obk A3≠some gc:=fun e=>by have:=(h.tb.own.obk_ge e).1;omega
 have hgc':obk A'≠some gc:=hg.apart h.cf.lt hgc
 have hlo:∀ k,k < BB→k < wr.heap.size→w'.heap[k]? = wr.heap[k]?:=fun k hk hl=>hg.keep hl fun e=>by have:=(h.tb.own.obk_ge e).1;omega
 have hset:∀ k v,k≠gc→(w'.setCell ⟨gc,2,none⟩ v).heap[k]? = w'.heap[k]?:=fun k v hk=>Below.heap_setCell _ _ _ _ hk
 have hss:∀ v,(w'.setCell ⟨gc,2,none⟩ v).heap.size=w'.heap.size:=fun v=>by simp
 have hon:∀ v,Only (fun k=>obk A3=some k∨k=gc) wr (w'.setCell ⟨gc,2,none⟩ v):=fun v=>⟨hg.gb.os,hg.gb.tape,hg.gb.output,by rw[hss];exact hg.gb.size,fun k hk hn=>(hset k v fun e=>hn (.inr e)).trans (hg.keep hk fun e=>hn (.inl e))⟩
 have hkeep:∀ v k,k < wr.heap.size→obk A3≠some k→k≠gc→(w'.setCell ⟨gc,2,none⟩ v).heap[k]? = wr.heap[k]?:=fun v k hk h1 h2=>(hset k v h2).trans (hg.keep hk h1)
 obtain⟨at_,ht⟩:=h.tp
 refine⟨⟨at_,ht.below (Bs:=gc) ⟨hg.gb.os,hg.gb.tape,hg.gb.output,by rw[hss];exact hg.gb.size,fun k hk=>(hset k _ (by omega)).trans (hlo k (by omega) (by have:=h.cf.lt;omega))⟩ (by omega)⟩,⟨hg.gb.os.trans h.gb.os,hg.gb.tape.trans h.gb.tape,hg.gb.output.trans h.gb.output,by rw[hss];exact Nat.le_trans h.gb.size hg.gb.size,fun k hk hne=>((hset k _ (by omega)).trans (hlo k (by omega) (by omega))).trans (h.gb.block k hk hne)⟩,
  ((h.cf.keep (hg.keep h.cf.lt hgc) hg.gb.size).set 2 _).congr fun j hj=>?_,h.rs.keep (hkeep _ gr h.rs.lt (fun e=>by have:=(h.tb.own.obk_ge e).1;omega) (by omega)) (by rw[hss];exact hg.gb.size),⟨h.pp.len,h.pp.own.keep' fun k hk=>hkeep _ k (h.pp.own.obk_ge hk).2 (fun e=>h.d13 k hk e) (by have:=(h.pp.own.obk_ge hk).1;omega)⟩,⟨h.ch.len,h.ch.own.keep' fun k hk=>hkeep _ k (h.ch.own.obk_ge hk).2 (fun e=>h.d23 k hk e) (by have:=(h.ch.own.obk_ge hk).1;omega)⟩,⟨by rw[List.length_append,h.tb.len];rfl,ho.other ⟨gc,2,none⟩ _ fun g e e2=>hgc' (by rw[e];exact congrArg some e2)⟩,fun y hy=>?_,fun y hy=>?_,h.d12,fun k hk e=>hg.apart' (D:=A1) (fun k hk=>(h.pp.own.obk_ge hk).2) (fun k e e2=>h.d13 k e2 e) k e hk,fun k hk e=>hg.apart' (D:=A2) (fun k hk=>(h.ch.own.obk_ge hk).2) (fun k e e2=>h.d23 k e2 e) k e hk⟩
 ·unfold put1 box3
  rcases(by omega:j=0∨j=1∨j=2) with rfl | rfl | rfl <;> rfl
 ·obtain⟨p1,p2⟩:=h.pt y hy
  exact⟨p1.only (hon _) (fun k hk e=>by
    rcases e with e | e
    ·exact(p2 k hk).2.2.2.2 e
    ·have:=(p2 k hk).1;omega),fun k hk=>⟨(p2 k hk).1,by rw[hss];exact Nat.lt_of_lt_of_le (p2 k hk).2.1 hg.gb.size,(p2 k hk).2.2.1,(p2 k hk).2.2.2.1,hg.apart (p2 k hk).2.1 (p2 k hk).2.2.2.2⟩⟩
 ·rcases List.mem_append.1 hy with hy | hy
  ·obtain⟨p1,p2⟩:=h.tt y hy
   exact⟨⟨p1.1.only (hon _) (fun k hk e=>by
     rcases e with e | e
     ·exact(p2 k hk).2.2.2.2 e
     ·have:=(p2 k hk).1;omega),p1.2⟩,fun k hk=>⟨(p2 k hk).1,by rw[hss];exact Nat.lt_of_lt_of_le (p2 k hk).2.1 hg.gb.size,(p2 k hk).2.2.1,(p2 k hk).2.2.2.1,hg.apart (p2 k hk).2.1 (p2 k hk).2.2.2.2⟩⟩
  ·simp at hy
   subst hy
   obtain⟨p1,p2⟩:=hx
   exact⟨⟨p1.1.only (hon _) (fun k hk e=>by
     rcases e with e | e
     ·exact(p2 k hk).2.2.2.2 e
     ·have:=(p2 k hk).1;omega),p1.2⟩,fun k hk=>⟨(p2 k hk).1,by rw[hss];exact Nat.lt_of_lt_of_le (p2 k hk).2.1 hg.gb.size,(p2 k hk).2.2.1,(p2 k hk).2.2.2.1,hg.apart (p2 k hk).2.1 (p2 k hk).2.2.2.2⟩⟩
end
end Go.Proofs.YtfddpnhaejkacaaGreat
