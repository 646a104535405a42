import Derived.Test.YtfmndmhjjbeokaaGreatDoorLow19
import Derived.Test.YtfmndmhjjbeokaaGreatDoorLow22
import Derived.Test.YtfmndmhjjbeokaaGreatDoorLow18
import Derived.Test.YtfmndmhjjbeokaaGreatDoorLow9
namespace Go.Proofs.YtfmndmhjjbeokaaGreatDoor
open Go.RowKit Tab
set_option linter.unusedSimpArgs false
set_option linter.unusedVariables false
structure Only (p:Nat→Prop) (w w':World):Prop where
 os:w'.os=w.os
 tape:w'.tape=w.tape
 output:w'.output=w.output
 size:w.heap.size≤w'.heap.size
 block:∀ k,k < w.heap.size→¬ p k→w'.heap[k]? = w.heap[k]?
section
variable {p:Nat→Prop} {w w' w2:World}
theorem Only.refl (p:Nat→Prop) (w:World):Only p w w:=⟨rfl,rfl,rfl,Nat.le_refl _,fun _ _ _=>rfl⟩
theorem Only.trans (h:Only p w w') (k:Only p w' w2):Only p w w2 :=
 ⟨k.os.trans h.os,k.tape.trans h.tape,k.output.trans h.output,Nat.le_trans h.size k.size,fun i hi hn=>(k.block i (Nat.lt_of_lt_of_le hi h.size) hn).trans (h.block i hi hn)⟩
theorem Only.bel (h:Below w.heap.size w w'):Only p w w':=⟨h.os,h.tape,h.output,h.size,fun k hk _=>h.block k hk⟩
theorem Only.gb {b:Nat} (h:w.grownBy w' (some b)) (hb:p b):Only p w w':=⟨h.os,h.tape,h.output,h.size,fun k hk hn=>h.block k hk fun e=>by injection e with e;subst e;exact hn hb⟩
theorem Only.set (w:World) (a:Addr) (v:Value) (hb:p a.block):Only p w (w.setCell a v) :=
 ⟨rfl,rfl,rfl,by simp,fun k hk hn=>Below.heap_setCell w a v k fun e=>by subst e;exact hn hb⟩
theorem Only.drewN (h:Only p w w') (q:Nat):Only p w (w'.drewN q):=⟨h.os,h.tape,h.output,h.size,h.block⟩
theorem Only.rdv {B:Nat} {A:Option Addr} {l:List Value} (h:Only p w w') (hr:RdV w w.heap.size A l) (hA:∀ b,obk A=some b→¬ p b):RdV w' w'.heap.size A l:=fun hl=>by
 obtain ⟨ad,e,hb,hc⟩:=hr hl
 refine ⟨ad,e,Nat.lt_of_lt_of_le hb h.size,fun j v hj=>?_⟩
 rw [World.cell?_of_block (h.block (ad.add j).block (by rw [add_block];exact hb) (by rw [add_block];exact hA _ (by rw [e];rfl)))]
 exact hc j v hj
end
theorem elRR:Elt 94 90 1 24 (.slice none 0 0):=⟨Tryz.underlying94,by kernel_rfl,rfl,by omega⟩
structure Rw where
 a:Option Addr
 n:Nat
 c:Nat
 l:List Rn
def Rw.v (r:Rw):Value:=.slice r.a r.n r.c
theorem rwv_one (T:List Rw):∀ u∈T.map Rw.v,u.oneCell'=true:=by
 intro u hu
 obtain ⟨s,_,rfl⟩:=List.mem_map.1 hu
 rfl
structure RwAt (w:World) (r:Rw):Prop where
 rd:RdR w w.heap.size r.a r.n r.l
 cap:r.n≤r.c
 few:r.n≤96
 tk:ticks r.l≤90
theorem RwAt.on {w w':World} {r:Rw} (h:RwAt w r) (hb:Below w.heap.size w w'):RwAt w' r:=⟨h.rd.on hb,h.cap,h.few,h.tk⟩
theorem RwAt.only {p:Nat→Prop} {w w':World} {r:Rw} (h:RwAt w r) (ho:Only p w w') (hA:∀ b,obk r.a=some b→¬ p b):RwAt w' r:=⟨⟨h.rd.len,ho.rdv (B:=0) h.rd.rd hA⟩,h.cap,h.few,h.tk⟩
def Frame (t:TbV):Prop:=ofz t.n (t.k.dep+1) (one t.x t.k.lvs)=0∧ticks (one t.x t.k.lvs)≤90
def rowF (t:TbV):List Rn:=tidy (one t.x t.k.lvs)
theorem rof_new (t:TbV) (w:World) (h:TbAt w w.heap.size t) (hf:Frame t) :
  Calls Tryz.prog 51 #[.slice t.A t.n t.c] w fun e w'=>∃ r:Rw,e=.returned (.tuple #[r.v,.int .i64 0])∧RwAt w' r∧Below w.heap.size w w'∧(∀ b,obk r.a=some b→w.heap.size≤b∧b < w'.heap.size)∧r.l=rowF t:=by
 obtain ⟨hz,ht⟩:=hf
 have hk:=ofz_ok hz
 have hR:=rright_tree t.A t.n t.c _ t.x t.k w h.rd h.cap h.few h.ok rfl
 have e:F.tick t.x t.k.len=ticks (one t.x t.k.lvs):=by rw [one_ticks,lvs_ticks]
 have h0:rt t.n (t.k.dep+1) (F.tick t.x t.k.len)=0:=by
  rw [e]
  unfold rt
  rw [if_neg (by omega),if_neg (by omega),if_neg (by omega)]
 rw [h0] at hR
 refine (rof_tree t.A t.n t.c t.x t.k w h.rd h.cap h.ok hk.1 hk.2.1 (by rw [e];exact hk.2.2.1) hR).mono fun e w' ho=>?_
 unfold OfR at ho
 rw [if_neg (by omega)] at ho
 obtain ⟨A,c,rfl,hr,hc,hb,hn⟩:=ho
 refine ⟨⟨A,_,c,tidy (one t.x t.k.lvs)⟩,rfl,⟨hr,hc,hk.2.2.2,by rw [ticks_tidy];exact ht⟩,hb,fun b hb=>?_,rfl⟩
 cases A with
 | none=>cases hb
 | some ad =>
  injection hb with hb
  have hb:ad.block=b:=hb
  have h1:=hn ad rfl
  obtain ⟨ad',_,e1,h2,_⟩:=hr.at_ (i:=0) (ofz_runs h.ok).1
  injection e1 with e1
  subst e1
  omega
structure Asked (p:Nat→Prop) (w:World) (A3:Option Addr) (n3:Nat) (P:List PtV) (T:List TbV):Prop where
 t:RdB tcl w w.heap.size A3 n3 T
 tt:∀ t∈T,TbAt w w.heap.size t∧Frame t
 pt:∀ x∈P,PtAt w w.heap.size x
 s3:∀ b,obk A3=some b→¬ p b
 st:∀ t∈T,∀ b,obk t.A=some b→¬ p b
 sp:∀ x∈P,∀ b,obk x.pa=some b→¬ p b
theorem ProcsAt.only {p:Nat→Prop} {w w':World} {A:Option Addr} {n:Nat} (h:ProcsAt w w.heap.size A n) (ho:Only p w w') (hA:∀ b,obk A=some b→¬ p b):ProcsAt w' w'.heap.size A n:=fun i hi=>by
 obtain ⟨ad,e,q,h1,hB,h2,h3,h4⟩:=h i hi
 have hk:=ho.block ad.block hB (hA _ (by rw [h1];rfl))
 refine ⟨ad,e,q,h1,Nat.lt_of_lt_of_le hB ho.size,?_,?_,h4⟩
 ·exact (World.cell?_of_block (w:=w) (w':=w') (a:=ad.add (i*2)) (by rw [add_block];exact hk)).trans h2
 ·exact (World.cell?_of_block (w:=w) (w':=w') (a:=⟨(ad.add (i*2)).block,(ad.add (i*2)).off+1,none⟩) (by show w'.heap[(ad.add (i*2)).block]? = w.heap[(ad.add (i*2)).block]?;rw [add_block];exact hk)).trans h3
theorem Asked.only {p:Nat→Prop} {w w':World} {A3:Option Addr} {n3:Nat} {P:List PtV} {T:List TbV} (h:Asked p w A3 n3 P T) (ho:Only p w w'):Asked p w' A3 n3 P T :=
 ⟨⟨h.t.len,ho.rdv (B:=0) h.t.rd h.s3⟩,fun t ht=>⟨⟨⟨(h.tt t ht).1.rd.len,ho.rdv (B:=0) (h.tt t ht).1.rd.rd (h.st t ht),(h.tt t ht).1.rd.bd⟩,(h.tt t ht).1.cap,(h.tt t ht).1.ok,(h.tt t ht).1.few⟩,(h.tt t ht).2⟩,
  fun x hx=>⟨(h.pt x hx).per,(h.pt x hx).name,(h.pt x hx).few,(h.pt x hx).procs.only ho (h.sp x hx)⟩,h.s3,h.st,h.sp⟩
theorem OwnB.cell {α:Type} {E s:Nat} {f:α→List Value} {w:World} {B g n c:Nat} {l:List α} (h:OwnB E s f w B (some ⟨g,0,none⟩) n c l) (hf:∀ x,(f x).length=s) {i k:Nat} {x:α} {v:Value} (hx:l[i]? = some x) (hk:k < s) (hv:(f x)[k]? = some v):w.cell? ⟨g,i*s+k,none⟩=some v∧w.frozen? ⟨g,i*s+k,none⟩=false:=by
 have hi:i < l.length:=(List.getElem?_eq_some_iff.1 hx).1
 have h1:(i+1)*s≤l.length*s:=Nat.mul_le_mul_right _ hi
 rw [Nat.succ_mul] at h1
 refine ⟨?_,World.ownsRow.frozenAt h.own _⟩
 rw [World.ownsRow.cellAt h.own (i*s+k) (by rw [← h.len];omega),flat_get hf l i k x hx hk]
 exact hv
theorem OwnB.put {α:Type} {E s:Nat} {f:α→List Value} {w:World} {B g n c:Nat} {l:List α} (h:OwnB E s f w B (some ⟨g,0,none⟩) n c l) (hf:∀ x,(f x).length=s) {i k:Nat} {x y:α} {v:Value} (hx:l[i]? = some x) (hk:k < s) (hy:f y=(f x).set k v) :
  OwnB E s f (w.setCell ⟨g,i*s+k,none⟩ v) B (some ⟨g,0,none⟩) n c (l.set i y):=by
 have hi:i < l.length:=(List.getElem?_eq_some_iff.1 hx).1
 have h1:(i+1)*s≤l.length*s:=Nat.mul_le_mul_right _ hi
 rw [Nat.succ_mul] at h1
 refine ⟨by rw [List.length_set];exact h.len,?_⟩
 rw [flat_set hf l i k x y v hx hk hy]
 refine h.own.set (i*s+k) v ?_
 rw [flat_len hf]
 omega
theorem OwnB.gb {α:Type} {E s:Nat} {f:α→List Value} {w w':World} {B b n c:Nat} {A:Option Addr} {l:List α} (h:OwnB E s f w B A n c l) (hg:w.grownBy w' (some b)) (hb:b < B):OwnB E s f w' B A n c l:=⟨h.len,h.own.gb hg hb⟩
def coreP (x:PtV):PtV:={ x with bud:=0,per:=0 }
def coreC (x:ChV):ChV:={ x with late:=0 }
structure AskS (p:Nat→Prop) (B b:Nat) (A:Option Addr) (m c:Nat) (f:Nat→Int) (A1 A2:Option Addr) (n1 n2 c1 c2 B1:Nat) (P0:List PtV) (C0:List ChV) (W w:World) (P:List PtV) (C:List ChV):Prop where
 pp:OwnB 60 11 pcl w B1 A1 n1 c1 P
 ch:OwnB 66 6 cc w B1 A2 n2 c2 C
 pm:P.map coreP=P0.map coreP
 cm:C.map coreC=C0.map coreC
 tp:∃ at_,TapeW w B b A m c f at_
 on:Only p W w
section
variable {p:Nat→Prop} {B b:Nat} {A:Option Addr} {m c:Nat} {f:Nat→Int} {A1 A2:Option Addr} {n1 n2 c1 c2 B1:Nat} {P0:List PtV} {C0:List ChV} {W w w':World} {P:List PtV} {C:List ChV}
theorem AskS.bel (h:AskS p B b A m c f A1 A2 n1 n2 c1 c2 B1 P0 C0 W w P C) (hb:Below w.heap.size w w'):AskS p B b A m c f A1 A2 n1 n2 c1 c2 B1 P0 C0 W w' P C:=by
 obtain ⟨at_,T⟩:=h.tp
 exact ⟨h.pp.below hb,h.ch.below hb,h.pm,h.cm,⟨at_,T.below hb T.lt⟩,h.on.trans (Only.bel hb)⟩
theorem AskS.next (h:AskS p B b A m c f A1 A2 n1 n2 c1 c2 B1 P0 C0 W w P C) {at_:Nat} (T:TapeW w' B b A m c f at_) (hg:w.grownBy w' (some b)) (hb:b < B1) (hp:p b):AskS p B b A m c f A1 A2 n1 n2 c1 c2 B1 P0 C0 W w' P C :=
 ⟨h.pp.gb hg hb,h.ch.gb hg hb,h.pm,h.cm,⟨at_,T⟩,h.on.trans (Only.gb hg hp)⟩
theorem TapeW.other {at_:Nat} (h:TapeW w B b A m c f at_) (q:Addr) (v:Value) (hq:B1≤q.block) (hb:b < B1):TapeW (w.setCell q v) B b A m c f at_ :=
 h.below (Bs:=B1) ((Below.refl _ _).setCell hq v) hb
theorem map_set_same {α β:Type} {f:α→β} {l:List α} {i:Nat} {x y:α} (hx:l[i]? = some x) (h:f y=f x):(l.set i y).map f=l.map f:=by
 obtain ⟨hi,e⟩:=List.getElem?_eq_some_iff.1 hx
 apply List.ext_getElem?
 intro j
 rw [List.getElem?_map,List.getElem?_map,List.getElem?_set]
 by_cases hj:i=j
 ·subst hj
  rw [if_pos rfl,if_pos hi,hx]
  simp [h]
 ·rw [if_neg hj]
theorem AskS.late {g:Nat} (h:AskS p B b A m c f A1 (some ⟨g,0,none⟩) n1 n2 c1 c2 B1 P0 C0 W w P C) {i:Nat} {x:ChV} (hx:C[i]? = some x) (z:Int) (hb:b < B1) (hp:p g) (h12:obk A1≠some g) :
  AskS p B b A m c f A1 (some ⟨g,0,none⟩) n1 n2 c1 c2 B1 P0 C0 W (w.setCell ⟨g,i*6+5,none⟩ (.int .i64 z)) P (C.set i { x with late:=z }):=by
 obtain ⟨at_,T⟩:=h.tp
 have hBg:B1≤g:=(h.ch.own.obk_ge rfl).1
 exact ⟨h.pp.other _ _ fun g' e=>fun e2=>h12 (by rw [e];exact congrArg some e2),h.ch.put cc_len hx (by omega) (cc_late x z),h.pm,(map_set_same hx (show coreC { x with late:=z }=coreC x from rfl)).trans h.cm,⟨at_,T.other ⟨g,i*6+5,none⟩ _ hBg hb⟩,h.on.trans (Only.set _ _ _ hp)⟩
theorem AskS.ask {g:Nat} (h:AskS p B b A m c f (some ⟨g,0,none⟩) A2 n1 n2 c1 c2 B1 P0 C0 W w P C) {i:Nat} {x:PtV} (hx:P[i]? = some x) (y z:Int) (hb:b < B1) (hp:p g) (h12:obk A2≠some g) :
  AskS p B b A m c f (some ⟨g,0,none⟩) A2 n1 n2 c1 c2 B1 P0 C0 W ((w.setCell ⟨g,i*11+1,none⟩ (.int .i64 y)).setCell ⟨g,i*11+2,none⟩ (.int .i64 z)) (P.set i { x with bud:=y,per:=z }) C:=by
 obtain ⟨at_,T⟩:=h.tp
 have hBg:B1≤g:=(h.pp.own.obk_ge rfl).1
 have h1:=h.pp.put pcl_len hx (by omega) (pcl_bud x y)
 have hx1:(P.set i { x with bud:=y })[i]? = some { x with bud:=y }:=List.getElem?_set_self (List.getElem?_eq_some_iff.1 hx).1
 have h2:=h1.put pcl_len hx1 (by omega) (pcl_per { x with bud:=y } z)
 rw [List.set_set] at h2
 exact ⟨h2,(h.ch.other _ _ fun g' e=>fun e2=>h12 (by rw [e];exact congrArg some e2)).other _ _ fun g' e=>fun e2=>h12 (by rw [e];exact congrArg some e2),(map_set_same hx (show coreP { x with bud:=y,per:=z }=coreP x from rfl)).trans h.pm,h.cm,
  ⟨at_,(T.other ⟨g,i*11+1,none⟩ _ hBg hb).other ⟨g,i*11+2,none⟩ _ hBg hb⟩,(h.on.trans (Only.set _ _ _ hp)).trans (Only.set _ _ _ hp)⟩
end
theorem loadVar_runC {w:World} {g:Nat} {v0 v1 v2:Value} (h0:w.cell? ⟨g,0,none⟩=some v0) (h1:w.cell? ⟨g,1,none⟩=some v1) (h2:w.cell? ⟨g,2,none⟩=some v2):(loadVar 31 ⟨g,0,none⟩).run Tryz.prog w=.ok (.agg #[v0,v1,v2]) w:=by
 have e:(isAgg 31).run Tryz.prog w=.ok true w:=by go_simp
 have e2:(sizeOf 31).run Tryz.prog w=.ok 3 w:=by go_simp
 unfold loadVar
 rw [Sem.run_bind,e,Result.andThen_ok]
 simp only [if_true]
 rw [Sem.run_bind,e2,Result.andThen_ok,Sem.run_bind]
 have:=run_loadCells_list (P:=Tryz.prog) (w:=w) ⟨g,0,none⟩ [v0,v1,v2] (fun j v hj=>by
  match j with
  | 0=>simp at hj;subst hj;simpa [Addr.add] using h0
  | 1=>simp at hj;subst hj;simpa [Addr.add] using h1
  | 2=>simp at hj;subst hj;simpa [Addr.add] using h2
  | j+3=>simp at hj)
 simp only [List.length_cons,List.length_nil] at this
 rw [this,Result.andThen_ok]
 rfl
theorem results_runC {fn:Func} {p:Tmp} (h:fn.results=#[.cell p 31]) {tmps:Array Value} {w:World} {g:Nat} {v0 v1 v2:Value} (hp:tmps.getD p undef=.pointer (some ⟨g,0,none⟩)) (h0:w.cell? ⟨g,0,none⟩=some v0) (h1:w.cell? ⟨g,1,none⟩=some v1) (h2:w.cell? ⟨g,2,none⟩=some v2) :
  (results fn tmps).run Tryz.prog w=.ok (.agg #[v0,v1,v2]) w:=by
 have e:(asAddr (.pointer (some ⟨g,0,none⟩))).run Tryz.prog w=.ok ⟨g,0,none⟩ w:=rfl
 rw [results_cell1 h,hp,e,Result.andThen_ok,loadVar_runC h0 h1 h2]
theorem Only.new {p:Nat→Prop} {w w':World} (h:Only p w w') (a:Addr) (v:Value) (ha:w.heap.size≤a.block):Only p w (w'.setCell a v) :=
 ⟨h.os,h.tape,h.output,by have:=h.size;simpa using this,fun k hk hn=>(Below.heap_setCell w' a v k (by omega)).trans (h.block k hk hn)⟩
def set3 (w:World) (g:Nat) (v0 v1 v2:Value):World:=((w.setCell ⟨g,0,none⟩ v0).setCell ⟨g,1,none⟩ v1).setCell ⟨g,2,none⟩ v2
theorem set3_cells {w:World} {g:Nat} {f:Nat→Value} (h:Vec w g 3 f) (v0 v1 v2:Value):(set3 w g v0 v1 v2).cell? ⟨g,0,none⟩=some v0∧(set3 w g v0 v1 v2).cell? ⟨g,1,none⟩=some v1∧(set3 w g v0 v1 v2).cell? ⟨g,2,none⟩=some v2:=by
 have h3:=((h.set 0 v0).set 1 v1).set 2 v2
 refine ⟨(h3.cell 0 (by omega)).trans ?_,(h3.cell 1 (by omega)).trans ?_,(h3.cell 2 (by omega)).trans ?_⟩ <;> rfl
theorem AskS.res {p:Nat→Prop} {B b:Nat} {A:Option Addr} {m c:Nat} {f:Nat→Int} {A1 A2:Option Addr} {n1 n2 c1 c2 B1:Nat} {P0:List PtV} {C0:List ChV} {w0 W w:World} {P:List PtV} {C:List ChV}
  (h:AskS p B b A m c f A1 A2 n1 n2 c1 c2 B1 P0 C0 W w P C) (h0:Only p w0 W) (g:Nat) (v0 v1 v2:Value) (hg:w0.heap.size≤g) (hp:∀ k,p k→k < w0.heap.size) (hb:p b) (h1:∀ k,obk A1=some k→p k) (h2:∀ k,obk A2=some k→p k) :
  RdB pcl (set3 w g v0 v1 v2) (set3 w g v0 v1 v2).heap.size A1 n1 P∧RdB cc (set3 w g v0 v1 v2) (set3 w g v0 v1 v2).heap.size A2 n2 C∧(∃ at_,TapeW (set3 w g v0 v1 v2) B b A m c f at_)∧Only p w0 (set3 w g v0 v1 v2)∧OwnB 60 11 pcl (set3 w g v0 v1 v2) B1 A1 n1 c1 P∧OwnB 66 6 cc (set3 w g v0 v1 v2) B1 A2 n2 c2 C:=by
 have hs:(set3 w g v0 v1 v2).heap.size=w.heap.size:=by simp [set3]
 have n1':∀ k,obk A1=some k→k≠g:=fun k e=>by have:=hp k (h1 k e);omega
 have n2':∀ k,obk A2=some k→k≠g:=fun k e=>by have:=hp k (h2 k e);omega
 obtain ⟨at_,T⟩:=h.tp
 have hbl:Below w0.heap.size w (set3 w g v0 v1 v2):=(((Below.refl _ _).setCell (p:=⟨g,0,none⟩) hg v0).setCell (p:=⟨g,1,none⟩) hg v1).setCell (p:=⟨g,2,none⟩) hg v2
 refine ⟨?_,?_,⟨at_,T.below hbl (hp b hb)⟩,(((h0.trans h.on).new ⟨g,0,none⟩ v0 hg).new ⟨g,1,none⟩ v1 hg).new ⟨g,2,none⟩ v2 hg,?_,?_⟩
 ·rw [hs]
  exact ((h.pp.rdb.other ⟨g,0,none⟩ v0 n1').other ⟨g,1,none⟩ v1 n1').other ⟨g,2,none⟩ v2 n1'
 ·rw [hs]
  exact ((h.ch.rdb.other ⟨g,0,none⟩ v0 n2').other ⟨g,1,none⟩ v1 n2').other ⟨g,2,none⟩ v2 n2'
 ·have k1:∀ g':Nat,A1=some ⟨g',0,none⟩→g'≠g:=fun g' e=>n1' g' (by rw [e];rfl)
  exact ((h.pp.other ⟨g,0,none⟩ v0 k1).other ⟨g,1,none⟩ v1 k1).other ⟨g,2,none⟩ v2 k1
 ·have k2:∀ g':Nat,A2=some ⟨g',0,none⟩→g'≠g:=fun g' e=>n2' g' (by rw [e];rfl)
  exact ((h.ch.other ⟨g,0,none⟩ v0 k2).other ⟨g,1,none⟩ v1 k2).other ⟨g,2,none⟩ v2 k2
end Go.Proofs.YtfmndmhjjbeokaaGreatDoor
namespace Go.Proofs.YtfmndmhjjbeokaaGreatDoor
open Go.RowKit Tab
set_option linter.unusedSimpArgs false
set_option linter.unusedVariables false
def box3 (v0 v1 v2:Value) (j:Nat):Value:=if j=0 then v0 else if j=1 then v1 else v2
structure CfgS (B b:Nat) (A:Option Addr) (m c:Nat) (f:Nat→Int) (w:World) (gr gc BB:Nat) (A1 A2 A3:Option Addr) (n1 n2 n3 c1 c2 c3:Nat) (P:List PtV) (C:List ChV) (T:List TbV) (wr:World):Prop where
 tp:∃ at_,TapeW wr B b A m c f at_
 gb:w.grownBy wr (some b)
 cf:Vec wr gc 3 (box3 (.slice A1 n1 c1) (.slice A2 n2 c2) (.slice A3 n3 c3))
 rs:Vec wr gr 3 (box3 (.slice none 0 0) (.slice none 0 0) (.slice none 0 0))
 pp:OwnB 60 11 pcl wr BB A1 n1 c1 P
 ch:OwnB 66 6 cc wr BB A2 n2 c2 C
 tb:OwnB 34 1 tcl wr BB A3 n3 c3 T
 pt:∀ x∈P,PtAt wr wr.heap.size x∧∀ k,obk x.pa=some k→BB≤k∧k < wr.heap.size∧obk A1≠some k∧obk A2≠some k∧obk A3≠some k
 tt:∀ t∈T,(TbAt wr wr.heap.size t∧Frame t)∧∀ k,obk t.A=some k→BB≤k∧k < wr.heap.size∧obk A1≠some k∧obk A2≠some k∧obk A3≠some k
 d12:∀ k,obk A1=some k→obk A2≠some k
 d13:∀ k,obk A1=some k→obk A3≠some k
 d23:∀ k,obk A2=some k→obk A3≠some k
structure CfgB (b:Nat) (w:World) (gr gc BB:Nat):Prop where
 br:b < gr
 wr:gr=w.heap.size
 rc:gc=gr+1
 cB:BB=gc+1
section
variable {B b:Nat} {A:Option Addr} {m c:Nat} {f:Nat→Int} {w:World} {gr gc BB:Nat} {A1 A2 A3:Option Addr} {n1 n2 n3 c1 c2 c3:Nat} {P:List PtV} {C:List ChV} {T:List TbV} {wr w':World}
theorem PtAt.only {p:Nat→Prop} {x:PtV} (h:PtAt wr wr.heap.size x) (ho:Only p wr w') (hA:∀ b,obk x.pa=some b→¬ p b):PtAt w' w'.heap.size x:=⟨h.per,h.name,h.few,h.procs.only ho hA⟩
theorem TbAt.only {p:Nat→Prop} {t:TbV} (h:TbAt wr wr.heap.size t) (ho:Only p wr w') (hA:∀ b,obk t.A=some b→¬ p b):TbAt w' w'.heap.size t:=⟨⟨h.rd.len,ho.rdv (B:=0) h.rd.rd hA,h.rd.bd⟩,h.cap,h.ok,h.few⟩
theorem CfgS.only (h:CfgS B b A m c f w gr gc BB A1 A2 A3 n1 n2 n3 c1 c2 c3 P C T wr) (hB:CfgB b w gr gc BB) (ho:Only (fun k=>k=b) wr w') (ht:∃ at_,TapeW w' B b A m c f at_):CfgS B b A m c f w gr gc BB A1 A2 A3 n1 n2 n3 c1 c2 c3 P C T w':=by
 have h1:=hB.br
 have h2:=hB.wr
 have h3:=hB.rc
 have h4:=hB.cB
 have hs:=h.gb.size
 refine ⟨ht,⟨ho.os.trans h.gb.os,ho.tape.trans h.gb.tape,ho.output.trans h.gb.output,Nat.le_trans h.gb.size ho.size,fun k hk hne=>(ho.block k (by omega) fun e=>hne (by rw [e])).trans (h.gb.block k hk hne)⟩,
  h.cf.keep (ho.block gc h.cf.lt (by omega)) ho.size,h.rs.keep (ho.block gr h.rs.lt (by omega)) ho.size,⟨h.pp.len,h.pp.own.keep fun k hk hl=>ho.block k hl (by omega)⟩,⟨h.ch.len,h.ch.own.keep fun k hk hl=>ho.block k hl (by omega)⟩,⟨h.tb.len,h.tb.own.keep fun k hk hl=>ho.block k hl (by omega)⟩,fun x hx=>?_,fun t ht=>?_,h.d12,h.d13,h.d23⟩
 ·obtain ⟨p1,p2⟩:=h.pt x hx
  exact ⟨p1.only ho fun k hk e=>by have:=(p2 k hk).1;omega,fun k hk=>⟨(p2 k hk).1,Nat.lt_of_lt_of_le (p2 k hk).2.1 ho.size,(p2 k hk).2.2⟩⟩
 ·obtain ⟨p1,p2⟩:=h.tt t ht
  exact ⟨⟨p1.1.only ho fun k hk e=>by have:=(p2 k hk).1;omega,p1.2⟩,fun k hk=>⟨(p2 k hk).1,Nat.lt_of_lt_of_le (p2 k hk).2.1 ho.size,(p2 k hk).2.2⟩⟩
theorem CfgS.bel (h:CfgS B b A m c f w gr gc BB A1 A2 A3 n1 n2 n3 c1 c2 c3 P C T wr) (hB:CfgB b w gr gc BB) (hb:Below wr.heap.size wr w'):CfgS B b A m c f w gr gc BB A1 A2 A3 n1 n2 n3 c1 c2 c3 P C T w':=by
 obtain ⟨at_,ht⟩:=h.tp
 exact h.only hB (Only.bel hb) ⟨at_,ht.below hb ht.lt⟩
theorem CfgS.next (h:CfgS B b A m c f w gr gc BB A1 A2 A3 n1 n2 n3 c1 c2 c3 P C T wr) (hB:CfgB b w gr gc BB) {at_:Nat} (ht:TapeW w' B b A m c f at_) (hg:wr.grownBy w' (some b)):CfgS B b A m c f w gr gc BB A1 A2 A3 n1 n2 n3 c1 c2 c3 P C T w' :=
 h.only hB (Only.gb hg rfl) ⟨at_,ht⟩
theorem Grew.keep {A0 A':Option Addr} {k:Nat} (hg:Grew A0 A' wr w') (hk:k < wr.heap.size) (hn:obk A0≠some k):w'.heap[k]? = wr.heap[k]?:=hg.gb.block k hk fun e=>hn e.symm
theorem Grew.apart {A0 A':Option Addr} {k:Nat} (hg:Grew A0 A' wr w') (hk:k < wr.heap.size) (hn:obk A0≠some k):obk A'≠some k:=by
 rcases hg.at_ with e | ⟨g,e,h⟩
 ·rw [e];exact hn
 ·rw [e];intro e2;injection e2 with e2;omega
theorem Grew.apart' {A0 A' D:Option Addr} (hg:Grew A0 A' wr w') (hD:∀ k,obk D=some k→k < wr.heap.size) (hn:∀ k,obk A0=some k→obk D≠some k):∀ k,obk A'=some k→obk D≠some k:=fun k e e2=>by
 rcases hg.at_ with e3 | ⟨g,e3,h⟩
 ·exact hn k (by rw [← e3];exact e) e2
 ·have:=hD k e2
  rw [e3] at e
  injection e with e
  omega
theorem CfgS.part (h:CfgS B b A m c f w gr gc BB A1 A2 A3 n1 n2 n3 c1 c2 c3 P C T wr) (hB:CfgB b w gr gc BB) {A':Option Addr} {c':Nat} {x:PtV} (hg:Grew A1 A' wr w') (ho:OwnV 60 11 w' BB A' (n1+1) c' ((P++[x]).flatMap pcl)) (hx:PtAt wr wr.heap.size x∧∀ k,obk x.pa=some k→BB≤k∧k < wr.heap.size∧obk A1≠some k∧obk A2≠some k∧obk A3≠some k) :
  CfgS B b A m c f w gr gc BB A' A2 A3 (n1+1) n2 n3 c' c2 c3 (P++[x]) C T (w'.setCell ⟨gc,0,none⟩ (.slice A' (n1+1) c')):=by
 have h1:=hB.br
 have h2:=hB.wr
 have h3:=hB.rc
 have h4:=hB.cB
 have hs:=h.gb.size
 have hgc:obk A1≠some gc:=fun e=>by have:=(h.pp.own.obk_ge e).1;omega
 have hgc':obk A'≠some gc:=hg.apart h.cf.lt hgc
 have hlo:∀ k,k < BB→k < wr.heap.size→w'.heap[k]? = wr.heap[k]?:=fun k hk hl=>hg.keep hl fun e=>by have:=(h.pp.own.obk_ge e).1;omega
 have hset:∀ k v,k≠gc→(w'.setCell ⟨gc,0,none⟩ v).heap[k]? = w'.heap[k]?:=fun k v hk=>Below.heap_setCell _ _ _ _ hk
 have hss:∀ v,(w'.setCell ⟨gc,0,none⟩ v).heap.size=w'.heap.size:=fun v=>by simp
 have hon:∀ v,Only (fun k=>obk A1=some k∨k=gc) wr (w'.setCell ⟨gc,0,none⟩ v):=fun v=>⟨hg.gb.os,hg.gb.tape,hg.gb.output,by rw [hss];exact hg.gb.size,fun k hk hn=>(hset k v fun e=>hn (.inr e)).trans (hg.keep hk fun e=>hn (.inl e))⟩
 have hkeep:∀ v k,k < wr.heap.size→obk A1≠some k→k≠gc→(w'.setCell ⟨gc,0,none⟩ v).heap[k]? = wr.heap[k]?:=fun v k hk h1 h2=>(hset k v h2).trans (hg.keep hk h1)
 obtain ⟨at_,ht⟩:=h.tp
 refine ⟨⟨at_,ht.below (Bs:=gc) ⟨hg.gb.os,hg.gb.tape,hg.gb.output,by rw [hss];exact hg.gb.size,fun k hk=>(hset k _ (by omega)).trans (hlo k (by omega) (by have:=h.cf.lt;omega))⟩ (by omega)⟩,⟨hg.gb.os.trans h.gb.os,hg.gb.tape.trans h.gb.tape,hg.gb.output.trans h.gb.output,by rw [hss];exact Nat.le_trans h.gb.size hg.gb.size,fun k hk hne=>((hset k _ (by omega)).trans (hlo k (by omega) (by omega))).trans (h.gb.block k hk hne)⟩,
  ((h.cf.keep (hg.keep h.cf.lt hgc) hg.gb.size).set 0 _).congr fun j hj=>?_,h.rs.keep (hkeep _ gr h.rs.lt (fun e=>by have:=(h.pp.own.obk_ge e).1;omega) (by omega)) (by rw [hss];exact hg.gb.size),⟨by rw [List.length_append,h.pp.len];rfl,ho.other ⟨gc,0,none⟩ _ fun g e e2=>hgc' (by rw [e];exact congrArg some e2)⟩,⟨h.ch.len,h.ch.own.keep' fun k hk=>hkeep _ k (h.ch.own.obk_ge hk).2 (fun e=>h.d12 k e hk) (by have:=(h.ch.own.obk_ge hk).1;omega)⟩,⟨h.tb.len,h.tb.own.keep' fun k hk=>hkeep _ k (h.tb.own.obk_ge hk).2 (fun e=>h.d13 k e hk) (by have:=(h.tb.own.obk_ge hk).1;omega)⟩,fun y hy=>?_,fun y hy=>?_,hg.apart' (fun k hk=>(h.ch.own.obk_ge hk).2) h.d12,hg.apart' (fun k hk=>(h.tb.own.obk_ge hk).2) h.d13,h.d23⟩
 ·unfold put1 box3
  rcases (by omega:j=0∨j=1∨j=2) with rfl | rfl | rfl <;> rfl
 ·rcases List.mem_append.1 hy with hy | hy
  ·obtain ⟨p1,p2⟩:=h.pt y hy
   exact ⟨p1.only (hon _) (fun k hk e=>by
     rcases e with e | e
     ·exact (p2 k hk).2.2.1 e
     ·have:=(p2 k hk).1;omega),fun k hk=>⟨(p2 k hk).1,by rw [hss];exact Nat.lt_of_lt_of_le (p2 k hk).2.1 hg.gb.size,hg.apart (p2 k hk).2.1 (p2 k hk).2.2.1,(p2 k hk).2.2.2.1,(p2 k hk).2.2.2.2⟩⟩
  ·simp at hy
   subst hy
   obtain ⟨p1,p2⟩:=hx
   exact ⟨p1.only (hon _) (fun k hk e=>by
     rcases e with e | e
     ·exact (p2 k hk).2.2.1 e
     ·have:=(p2 k hk).1;omega),fun k hk=>⟨(p2 k hk).1,by rw [hss];exact Nat.lt_of_lt_of_le (p2 k hk).2.1 hg.gb.size,hg.apart (p2 k hk).2.1 (p2 k hk).2.2.1,(p2 k hk).2.2.2.1,(p2 k hk).2.2.2.2⟩⟩
 ·obtain ⟨p1,p2⟩:=h.tt y hy
  exact ⟨⟨p1.1.only (hon _) (fun k hk e=>by
    rcases e with e | e
    ·exact (p2 k hk).2.2.1 e
    ·have:=(p2 k hk).1;omega),p1.2⟩,fun k hk=>⟨(p2 k hk).1,by rw [hss];exact Nat.lt_of_lt_of_le (p2 k hk).2.1 hg.gb.size,hg.apart (p2 k hk).2.1 (p2 k hk).2.2.1,(p2 k hk).2.2.2.1,(p2 k hk).2.2.2.2⟩⟩
theorem CfgS.chan (h:CfgS B b A m c f w gr gc BB A1 A2 A3 n1 n2 n3 c1 c2 c3 P C T wr) (hB:CfgB b w gr gc BB) {A':Option Addr} {c':Nat} {x:ChV} (hg:Grew A2 A' wr w') (ho:OwnV 66 6 w' BB A' (n2+1) c' ((C++[x]).flatMap cc)) :
  CfgS B b A m c f w gr gc BB A1 A' A3 n1 (n2+1) n3 c1 c' c3 P (C++[x]) T (w'.setCell ⟨gc,1,none⟩ (.slice A' (n2+1) c')):=by
 have h1:=hB.br
 have h2:=hB.wr
 have h3:=hB.rc
 have h4:=hB.cB
 have hs:=h.gb.size
 have hgc:obk A2≠some gc:=fun e=>by have:=(h.ch.own.obk_ge e).1;omega
 have hgc':obk A'≠some gc:=hg.apart h.cf.lt hgc
 have hlo:∀ k,k < BB→k < wr.heap.size→w'.heap[k]? = wr.heap[k]?:=fun k hk hl=>hg.keep hl fun e=>by have:=(h.ch.own.obk_ge e).1;omega
 have hset:∀ k v,k≠gc→(w'.setCell ⟨gc,1,none⟩ v).heap[k]? = w'.heap[k]?:=fun k v hk=>Below.heap_setCell _ _ _ _ hk
 have hss:∀ v,(w'.setCell ⟨gc,1,none⟩ v).heap.size=w'.heap.size:=fun v=>by simp
 have hon:∀ v,Only (fun k=>obk A2=some k∨k=gc) wr (w'.setCell ⟨gc,1,none⟩ v):=fun v=>⟨hg.gb.os,hg.gb.tape,hg.gb.output,by rw [hss];exact hg.gb.size,fun k hk hn=>(hset k v fun e=>hn (.inr e)).trans (hg.keep hk fun e=>hn (.inl e))⟩
 have hkeep:∀ v k,k < wr.heap.size→obk A2≠some k→k≠gc→(w'.setCell ⟨gc,1,none⟩ v).heap[k]? = wr.heap[k]?:=fun v k hk h1 h2=>(hset k v h2).trans (hg.keep hk h1)
 obtain ⟨at_,ht⟩:=h.tp
 refine ⟨⟨at_,ht.below (Bs:=gc) ⟨hg.gb.os,hg.gb.tape,hg.gb.output,by rw [hss];exact hg.gb.size,fun k hk=>(hset k _ (by omega)).trans (hlo k (by omega) (by have:=h.cf.lt;omega))⟩ (by omega)⟩,⟨hg.gb.os.trans h.gb.os,hg.gb.tape.trans h.gb.tape,hg.gb.output.trans h.gb.output,by rw [hss];exact Nat.le_trans h.gb.size hg.gb.size,fun k hk hne=>((hset k _ (by omega)).trans (hlo k (by omega) (by omega))).trans (h.gb.block k hk hne)⟩,
  ((h.cf.keep (hg.keep h.cf.lt hgc) hg.gb.size).set 1 _).congr fun j hj=>?_,h.rs.keep (hkeep _ gr h.rs.lt (fun e=>by have:=(h.ch.own.obk_ge e).1;omega) (by omega)) (by rw [hss];exact hg.gb.size),⟨h.pp.len,h.pp.own.keep' fun k hk=>hkeep _ k (h.pp.own.obk_ge hk).2 (fun e=>h.d12 k hk e) (by have:=(h.pp.own.obk_ge hk).1;omega)⟩,⟨by rw [List.length_append,h.ch.len];rfl,ho.other ⟨gc,1,none⟩ _ fun g e e2=>hgc' (by rw [e];exact congrArg some e2)⟩,⟨h.tb.len,h.tb.own.keep' fun k hk=>hkeep _ k (h.tb.own.obk_ge hk).2 (fun e=>h.d23 k e hk) (by have:=(h.tb.own.obk_ge hk).1;omega)⟩,fun y hy=>?_,fun y hy=>?_,fun k hk e=>hg.apart' (D:=A1) (fun k hk=>(h.pp.own.obk_ge hk).2) (fun k e e2=>h.d12 k e2 e) k e hk,h.d13,hg.apart' (fun k hk=>(h.tb.own.obk_ge hk).2) h.d23⟩
 ·unfold put1 box3
  rcases (by omega:j=0∨j=1∨j=2) with rfl | rfl | rfl <;> rfl
 ·obtain ⟨p1,p2⟩:=h.pt y hy
  exact ⟨p1.only (hon _) (fun k hk e=>by
    rcases e with e | e
    ·exact (p2 k hk).2.2.2.1 e
    ·have:=(p2 k hk).1;omega),fun k hk=>⟨(p2 k hk).1,by rw [hss];exact Nat.lt_of_lt_of_le (p2 k hk).2.1 hg.gb.size,(p2 k hk).2.2.1,hg.apart (p2 k hk).2.1 (p2 k hk).2.2.2.1,(p2 k hk).2.2.2.2⟩⟩
 ·obtain ⟨p1,p2⟩:=h.tt y hy
  exact ⟨⟨p1.1.only (hon _) (fun k hk e=>by
    rcases e with e | e
    ·exact (p2 k hk).2.2.2.1 e
    ·have:=(p2 k hk).1;omega),p1.2⟩,fun k hk=>⟨(p2 k hk).1,by rw [hss];exact Nat.lt_of_lt_of_le (p2 k hk).2.1 hg.gb.size,(p2 k hk).2.2.1,hg.apart (p2 k hk).2.1 (p2 k hk).2.2.2.1,(p2 k hk).2.2.2.2⟩⟩
theorem CfgS.tabl (h:CfgS B b A m c f w gr gc BB A1 A2 A3 n1 n2 n3 c1 c2 c3 P C T wr) (hB:CfgB b w gr gc BB) {A':Option Addr} {c':Nat} {x:TbV} (hg:Grew A3 A' wr w') (ho:OwnV 34 1 w' BB A' (n3+1) c' ((T++[x]).flatMap tcl)) (hx:(TbAt wr wr.heap.size x∧Frame x)∧∀ k,obk x.A=some k→BB≤k∧k < wr.heap.size∧obk A1≠some k∧obk A2≠some k∧obk A3≠some k) :
  CfgS B b A m c f w gr gc BB A1 A2 A' n1 n2 (n3+1) c1 c2 c' P C (T++[x]) (w'.setCell ⟨gc,2,none⟩ (.slice A' (n3+1) c')):=by
 have h1:=hB.br
 have h2:=hB.wr
 have h3:=hB.rc
 have h4:=hB.cB
 have hs:=h.gb.size
 have hgc:obk A3≠some gc:=fun e=>by have:=(h.tb.own.obk_ge e).1;omega
 have hgc':obk A'≠some gc:=hg.apart h.cf.lt hgc
 have hlo:∀ k,k < BB→k < wr.heap.size→w'.heap[k]? = wr.heap[k]?:=fun k hk hl=>hg.keep hl fun e=>by have:=(h.tb.own.obk_ge e).1;omega
 have hset:∀ k v,k≠gc→(w'.setCell ⟨gc,2,none⟩ v).heap[k]? = w'.heap[k]?:=fun k v hk=>Below.heap_setCell _ _ _ _ hk
 have hss:∀ v,(w'.setCell ⟨gc,2,none⟩ v).heap.size=w'.heap.size:=fun v=>by simp
 have hon:∀ v,Only (fun k=>obk A3=some k∨k=gc) wr (w'.setCell ⟨gc,2,none⟩ v):=fun v=>⟨hg.gb.os,hg.gb.tape,hg.gb.output,by rw [hss];exact hg.gb.size,fun k hk hn=>(hset k v fun e=>hn (.inr e)).trans (hg.keep hk fun e=>hn (.inl e))⟩
 have hkeep:∀ v k,k < wr.heap.size→obk A3≠some k→k≠gc→(w'.setCell ⟨gc,2,none⟩ v).heap[k]? = wr.heap[k]?:=fun v k hk h1 h2=>(hset k v h2).trans (hg.keep hk h1)
 obtain ⟨at_,ht⟩:=h.tp
 refine ⟨⟨at_,ht.below (Bs:=gc) ⟨hg.gb.os,hg.gb.tape,hg.gb.output,by rw [hss];exact hg.gb.size,fun k hk=>(hset k _ (by omega)).trans (hlo k (by omega) (by have:=h.cf.lt;omega))⟩ (by omega)⟩,⟨hg.gb.os.trans h.gb.os,hg.gb.tape.trans h.gb.tape,hg.gb.output.trans h.gb.output,by rw [hss];exact Nat.le_trans h.gb.size hg.gb.size,fun k hk hne=>((hset k _ (by omega)).trans (hlo k (by omega) (by omega))).trans (h.gb.block k hk hne)⟩,
  ((h.cf.keep (hg.keep h.cf.lt hgc) hg.gb.size).set 2 _).congr fun j hj=>?_,h.rs.keep (hkeep _ gr h.rs.lt (fun e=>by have:=(h.tb.own.obk_ge e).1;omega) (by omega)) (by rw [hss];exact hg.gb.size),⟨h.pp.len,h.pp.own.keep' fun k hk=>hkeep _ k (h.pp.own.obk_ge hk).2 (fun e=>h.d13 k hk e) (by have:=(h.pp.own.obk_ge hk).1;omega)⟩,⟨h.ch.len,h.ch.own.keep' fun k hk=>hkeep _ k (h.ch.own.obk_ge hk).2 (fun e=>h.d23 k hk e) (by have:=(h.ch.own.obk_ge hk).1;omega)⟩,⟨by rw [List.length_append,h.tb.len];rfl,ho.other ⟨gc,2,none⟩ _ fun g e e2=>hgc' (by rw [e];exact congrArg some e2)⟩,fun y hy=>?_,fun y hy=>?_,h.d12,fun k hk e=>hg.apart' (D:=A1) (fun k hk=>(h.pp.own.obk_ge hk).2) (fun k e e2=>h.d13 k e2 e) k e hk,fun k hk e=>hg.apart' (D:=A2) (fun k hk=>(h.ch.own.obk_ge hk).2) (fun k e e2=>h.d23 k e2 e) k e hk⟩
 ·unfold put1 box3
  rcases (by omega:j=0∨j=1∨j=2) with rfl | rfl | rfl <;> rfl
 ·obtain ⟨p1,p2⟩:=h.pt y hy
  exact ⟨p1.only (hon _) (fun k hk e=>by
    rcases e with e | e
    ·exact (p2 k hk).2.2.2.2 e
    ·have:=(p2 k hk).1;omega),fun k hk=>⟨(p2 k hk).1,by rw [hss];exact Nat.lt_of_lt_of_le (p2 k hk).2.1 hg.gb.size,(p2 k hk).2.2.1,(p2 k hk).2.2.2.1,hg.apart (p2 k hk).2.1 (p2 k hk).2.2.2.2⟩⟩
 ·rcases List.mem_append.1 hy with hy | hy
  ·obtain ⟨p1,p2⟩:=h.tt y hy
   exact ⟨⟨p1.1.only (hon _) (fun k hk e=>by
     rcases e with e | e
     ·exact (p2 k hk).2.2.2.2 e
     ·have:=(p2 k hk).1;omega),p1.2⟩,fun k hk=>⟨(p2 k hk).1,by rw [hss];exact Nat.lt_of_lt_of_le (p2 k hk).2.1 hg.gb.size,(p2 k hk).2.2.1,(p2 k hk).2.2.2.1,hg.apart (p2 k hk).2.1 (p2 k hk).2.2.2.2⟩⟩
  ·simp at hy
   subst hy
   obtain ⟨p1,p2⟩:=hx
   exact ⟨⟨p1.1.only (hon _) (fun k hk e=>by
     rcases e with e | e
     ·exact (p2 k hk).2.2.2.2 e
     ·have:=(p2 k hk).1;omega),p1.2⟩,fun k hk=>⟨(p2 k hk).1,by rw [hss];exact Nat.lt_of_lt_of_le (p2 k hk).2.1 hg.gb.size,(p2 k hk).2.2.1,(p2 k hk).2.2.2.1,hg.apart (p2 k hk).2.1 (p2 k hk).2.2.2.2⟩⟩
end
end Go.Proofs.YtfmndmhjjbeokaaGreatDoor
namespace Go.Proofs.YtfmndmhjjbeokaaGreatDoor
open Go Go.RowKit
namespace Rgs
open Reg (waits writes left left_set all_listed Closed)
set_option linter.unusedSimpArgs false
def good (ops:Array Oper) (n:Nat):Bool :=
 (List.range ops.size).all fun i=>match ops[i]? with
  | some o=>(match o.dst with
    | some d=>decide (d < n) && (List.range ops.size).all fun j=>j == i || (match ops[j]? with | some p=>!(p.dst == some d) | none=>true)
    | none=>true) && o.after.toList.all fun e=>!Region.binds .any e || decide (e.on < i)
  | none=>false
theorem good_at {ops:Array Oper} {n:Nat} (h:good ops n=true) {i:Nat} {o:Oper} (hi:ops[i]? = some o) :
  (∀ d,o.dst=some d→d < n∧∀ j p,ops[j]? = some p→j≠i→p.dst≠some d)∧∀ e∈o.after,Region.binds .any e=true→e.on < i:=by
 have hlt:i < ops.size:=(Array.getElem?_eq_some_iff.1 hi).1
 have h1:=List.all_eq_true.1 h i (List.mem_range.2 hlt)
 rw [hi] at h1
 simp only [Bool.and_eq_true] at h1
 obtain ⟨h2,h3⟩:=h1
 refine ⟨fun d hd=>?_,fun e he hbd=>?_⟩
 ·rw [hd] at h2
  simp only [Bool.and_eq_true,decide_eq_true_iff] at h2
  refine ⟨h2.1,fun j p hj hne=>?_⟩
  have hjl:j < ops.size:=(Array.getElem?_eq_some_iff.1 hj).1
  have h4:=List.all_eq_true.1 h2.2 j (List.mem_range.2 hjl)
  rw [hj] at h4
  simp only [Bool.or_eq_true,beq_iff_eq,Bool.not_eq_true',beq_eq_false_iff_ne] at h4
  exact h4.resolve_left hne
 ·have:=List.all_eq_true.1 h3 e (Array.mem_toList_iff.2 he)
  rw [hbd] at this
  simpa using this
def upd (live:Nat→Bool) (i:Nat):Nat→Bool:=fun j=>j == i || live j
structure Inv (ops:Array Oper) (a0:Act) (V:Nat→Value→World→Prop) (W:(Nat→Bool)→Act→World→Prop) (listed:Array Bool) (a:Act) (w:World):Prop where
 size:a.tmps.size=a0.tmps.size
 defers:a.defers=a0.defers
 env:∀ t,writes ops t=false→a.eval (.tmp t)=a0.eval (.tmp t)
 val:∀ j o,ops[j]? = some o→listed.getD j false=true→∃ v,V j v w∧∀ d,o.dst=some d→a.eval (.tmp d)=v
 world:W (fun j=>listed.getD j false) a w
 closed:Closed ops fun j=>listed.getD j false
def Owes (live:Nat→Bool) (V:Nat→Value→World→Prop) (W:(Nat→Bool)→Act→World→Prop) (i:Nat) (o:Oper) (a:Act) (w:World) (a':Act) (w':World):Prop :=
 ∃ v,a'=a.put o.dst v∧V i v w'∧W (upd live i) (a.put o.dst v) w'∧∀ j v,live j=true→V j v w→V j v w'
theorem live_set {listed:Array Bool} {i:Nat} (hi:i < listed.size):(fun j=>(listed.setIfInBounds i true).getD j false)=upd (fun j=>listed.getD j false) i:=by
 funext j
 unfold upd
 by_cases h:j=i
 ·subst h
  simp [hi]
 ·rw [getD_set_ne false (Ne.symm h)]
  simp [h]
theorem upd_off {live:Nat→Bool} {i k:Nat} (h:upd live i k=false):live k=false:=by
 unfold upd at h
 cases e:live k with
 | false=>rfl
 | true=>rw [e] at h;simp at h
theorem upd_self (live:Nat→Bool) (i:Nat):upd live i i=true:=by simp [upd]
theorem put_none (a:Act) (v:Value):a.put none v=a:=rfl
theorem Inv.step {ops:Array Oper} {a0:Act} {V:Nat→Value→World→Prop} {W:(Nat→Bool)→Act→World→Prop} {listed:Array Bool} {a a':Act} {w w':World} (hg:good ops a0.tmps.size=true)
  {i:Nat} {o:Oper} (hi:ops[i]? = some o) (hil:i < listed.size) (h:Inv ops a0 V W listed a w) (hr:∀ k,waits o k=true→listed.getD k false=true) (hs:Owes (fun j=>listed.getD j false) V W i o a w a' w'):Inv ops a0 V W (listed.setIfInBounds i true) a' w':=by
 obtain ⟨v,rfl,hv,hw,hm⟩:=hs
 obtain ⟨hgd,_⟩:=good_at hg hi
 have hcl:Closed ops fun j=>(listed.setIfInBounds i true).getD j false:=fun j p hj hl k hk=>by
  by_cases hji:j=i
  ·subst hji
   rw [hi] at hj
   injection hj with hj
   subst hj
   exact getD_set_true (hr k hk)
  ·have hl':(listed.setIfInBounds i true).getD j false=true:=hl
   rw [getD_set_ne false (Ne.symm hji)] at hl'
   exact getD_set_true (h.closed j p hj hl' k hk)
 cases hd:o.dst with
 | none =>
  rw [hd] at hw
  rw [put_none] at hw ⊢
  refine ⟨h.size,h.defers,h.env,fun j p hj hl=>?_,by rw [live_set hil];exact hw,hcl⟩
  by_cases hji:j=i
  ·subst hji
   rw [hi] at hj
   injection hj with hj
   subst hj
   exact ⟨v,hv,fun d e=>by rw [hd] at e;cases e⟩
  ·rw [getD_set_ne false (Ne.symm hji)] at hl
   obtain ⟨u,hu,he⟩:=h.val j p hj hl
   exact ⟨u,hm j u hl hu,he⟩
 | some d =>
  rw [hd] at hw
  obtain ⟨hdn,hdist⟩:=hgd d hd
  have hsz:d < a.tmps.size:=by rw [h.size];exact hdn
  refine ⟨by simp [Act.put,h.size],by simp [Act.put,h.defers],fun t ht=>?_,fun j p hj hl=>?_,by rw [live_set hil];exact hw,hcl⟩
  ·have hne:d≠t:=by
    rintro rfl
    have:writes ops d=true:=List.any_eq_true.2 ⟨o,Array.mem_toList_iff.2 (Array.mem_of_getElem? hi),by simp [hd]⟩
    rw [this] at ht;cases ht
   rw [Reg.eval_other _ _ _ _ hne];exact h.env t ht
  ·by_cases hji:j=i
   ·subst hji
    rw [hi] at hj
    injection hj with hj
    subst hj
    exact ⟨v,hv,fun d' e=>by rw [hd] at e;injection e with e;subst e;exact Reg.eval_same _ _ _ hsz⟩
   ·rw [getD_set_ne false (Ne.symm hji)] at hl
    obtain ⟨u,hu,he⟩:=h.val j p hj hl
    refine ⟨u,hm j u hl hu,fun d' e=>?_⟩
    rw [Reg.eval_other _ _ _ _ fun e2=>hdist j p hj hji (by rw [e,e2])]
    exact he d' e
theorem all_live {ops:Array Oper} {n:Nat} (hg:good ops n=true) {listed:Array Bool} (hs:listed.size=ops.size) (hr:Region.ready .any ops listed=[]) :
  ∀ j,j < ops.size→listed.getD j false=true:=by
 intro j
 induction j using Nat.strongRecOn with
 | ind j ih =>
  intro hj
  have hjl:j < listed.size:=by omega
  cases hb:listed.getD j false with
  | true=>rfl
  | false =>
   have hb':listed.getD j true=false:=by
    simpa [hjl] using hb
   obtain ⟨o,ho⟩:∃ o,ops[j]? = some o:=⟨_,Array.getElem?_eq_getElem hj⟩
   obtain ⟨_,hacy⟩:=good_at hg ho
   have:j∈Region.ready .any ops listed:=mem_ready.2 ⟨hb',o,ho,fun e he hbd=>ih e.on (hacy e he hbd) (by have:=hacy e he hbd;omega)⟩
   rw [hr] at this;cases this
def Goal (P:Program) (ops:Array Oper) (Q:Exit→Act→World→Prop) (V:Nat→Value→World→Prop) (W:(Nat→Bool)→Act→World→Prop) (live:Nat→Bool) (i:Nat) (o:Oper) (a:Act) (w:World):Prop :=
 wpOp P ops Q i (Owes live V W i o a w) a w
def Step (P:Program) (ops:Array Oper) (Q:Exit→Act→World→Prop) (a0:Act) (V:Nat→Value→World→Prop) (W:(Nat→Bool)→Act→World→Prop) (i:Nat) (o:Oper):Prop :=
 ∀ (a:Act) (w:World) (live:Nat→Bool),a.tmps.size=a0.tmps.size→(∀ t,writes ops t=false→a.eval (.tmp t)=a0.eval (.tmp t)) →
  (∀ j,waits o j=true→∀ p d,ops[j]? = some p→p.dst=some d→V j (a.eval (.tmp d)) w)→Closed ops live→live i=false→(∀ k,waits o k=true→live k=true)→W live a w→Goal P ops Q V W live i o a w
def Steps (P:Program) (ops:Array Oper) (Q:Exit→Act→World→Prop) (a0:Act) (V:Nat→Value→World→Prop) (W:(Nat→Bool)→Act→World→Prop):Prop :=
 ∀ i o,ops[i]? = some o→Step P ops Q a0 V W i o
theorem any_of {P:Program} {ops:Array Oper} {Q:Exit→Act→World→Prop} {a0:Act} {V:Nat→Value→World→Prop} {W:(Nat→Bool)→Act→World→Prop} (hg:good ops a0.tmps.size=true) (hst:Steps P ops Q a0 V W)
  (hend:∀ listed a w,Inv ops a0 V W listed a w→(∀ j,j < ops.size→listed.getD j false=true)→Q .normal a w) :
  ∀ (fuel:Nat) (listed:Array Bool) (a:Act) (w:World),listed.size=ops.size→left listed≤fuel→Inv ops a0 V W listed a w→wpAny P .any ops Q fuel listed a w:=by
 intro fuel
 induction fuel with
 | zero =>
  intro listed a w hs hl h
  have hr:Region.ready .any ops listed=[]:=by
   cases hc:Region.ready .any ops listed with
   | nil=>rfl
   | cons i r =>
    have hi:i∈Region.ready .any ops listed:=by rw [hc];exact List.mem_cons_self
    have:=left_set (mem_ready.1 hi).1
    omega
  exact ⟨hr,hend listed a w h (all_live hg hs hr)⟩
 | succ fuel ih =>
  intro listed a w hs hl h
  refine ⟨fun hr=>hend listed a w h (all_live hg hs hr),fun i hi=>?_⟩
  obtain ⟨h0,o,ho,hall⟩:=mem_ready.1 hi
  have hi':i < ops.size:=(Array.getElem?_eq_some_iff.1 ho).1
  have hlt:i < listed.size:=by omega
  have hwait:∀ k,waits o k=true→k < i∧listed.getD k false=true:=fun k hk=>by
   obtain ⟨e,he,heq⟩:=List.any_eq_true.1 hk
   have he:=Array.mem_toList_iff.1 he
   simp only [Bool.and_eq_true,beq_iff_eq] at heq
   obtain ⟨rfl,hb⟩:=heq
   obtain ⟨_,hacy⟩:=good_at hg ho
   exact ⟨hacy e he hb,hall e he hb⟩
  have hstep:=hst i o ho a w (fun j=>listed.getD j false) h.size h.env (fun j hj p d hp hd=>by
   obtain ⟨v,hv,he⟩:=h.val j p hp (hwait j hj).2
   rw [he d hd]
   exact hv) h.closed (by simpa [hlt] using h0) (fun k hk=>(hwait k hk).2) h.world
  refine wpOp_mono (fun a' w' hw=>?_) hstep
  refine ih _ a' w' (by simpa using hs) ?_ (h.step hg ho hlt (fun k hk=>(hwait k hk).2) hw)
  have:=left_set h0
  omega
theorem region {P:Program} {id:Nat} {ops:Array Oper} {Q:Exit→Act→World→Prop} {a0:Act} {w0:World} (hm:P.follows .mixedOrders=true) (hg:good ops a0.tmps.size=true) (V:Nat→Value→World→Prop) (W:(Nat→Bool)→Act→World→Prop)
  (hW:W (fun _=>false) a0 w0.drew) (hst:Steps P ops Q a0 V W)
  (hend:∀ a w live,a.tmps.size=a0.tmps.size→a.defers=a0.defers→(∀ t,writes ops t=false→a.eval (.tmp t)=a0.eval (.tmp t))→(∀ j p,ops[j]? = some p→∃ v,V j v w∧∀ d,p.dst=some d→a.eval (.tmp d)=v)→(∀ j,j < ops.size→live j=true)→W live a w→Q .normal a w) :
  (Code.region id ops true).wp P Q a0 w0:=by
 refine wp_region_any hm ?_
 have hfalse:(fun j=>(Array.replicate ops.size false).getD j false)=fun _=>false:=by
  funext j
  by_cases hj:j < ops.size <;> simp [hj]
 refine any_of hg hst (fun listed a w h hall=>hend a w (fun j=>listed.getD j false) h.size h.defers h.env (fun j p hj=>h.val j p hj (hall j (Array.getElem?_eq_some_iff.1 hj).1)) hall h.world) ops.size (Array.replicate ops.size false) a0 w0.drew (by simp) ?_ ?_
 ·unfold left
  have:=List.countP_le_length (p:=(· == false)) (l:=(Array.replicate ops.size false).toList)
  simpa using this
 ·refine ⟨rfl,rfl,fun _ _=>rfl,fun j p hj hl=>?_,by rw [hfalse];exact hW,fun j p hj hl k hk=>?_⟩
  ·have hjl:j < ops.size:=(Array.getElem?_eq_some_iff.1 hj).1
   simp [hjl] at hl
  ·have hjl:j < ops.size:=(Array.getElem?_eq_some_iff.1 hj).1
   have hl':(Array.replicate ops.size false).getD j false=true:=hl
   simp [hjl] at hl'
theorem steps_of {P:Program} {l:List Oper} {Q:Exit→Act→World→Prop} {a0:Act} {V:Nat→Value→World→Prop} {W:(Nat→Bool)→Act→World→Prop}
  (h:Reg.All (fun i o=>Step P l.toArray Q a0 V W i o) 0 l):Steps P l.toArray Q a0 V W:=by
 intro i o hi
 have:=Reg.All.get l 0 h i o (by simpa using hi)
 rwa [Nat.zero_add] at this
section
variable {P:Program} {ops:Array Oper} {Q:Exit→Act→World→Prop} {V:Nat→Value→World→Prop} {W:(Nat→Bool)→Act→World→Prop} {live:Nat→Bool} {i:Nat} {o:Oper} {a:Act} {w:World}
theorem val (hi:ops[i]? = some o) (hw:Region.wanted o (yielded ops a.tmps)=true) (v:Value) (hr:(execOp a.eval o).run P w=.ok (.value v) w) (hv:V i v w) (hW:W (upd live i) (a.put o.dst v) w):Goal P ops Q V W live i o a w:=by
 unfold Goal wpOp
 rw [hi]
 simp only [hw,if_true]
 refine .inl ?_
 unfold Oper.wp
 rw [hr]
 exact ⟨v,rfl,hv,hW,fun _ _ _ h=>h⟩
theorem grow (hi:ops[i]? = some o) (hw:Region.wanted o (yielded ops a.tmps)=true) (v:Value) (w':World) (hr:(execOp a.eval o).run P w=.ok (.value v) w') (hv:V i v w') (hW:W (upd live i) (a.put o.dst v) w')
  (hm:∀ j v,live j=true→V j v w→V j v w'):Goal P ops Q V W live i o a w:=by
 unfold Goal wpOp
 rw [hi]
 simp only [hw,if_true]
 refine .inl ?_
 unfold Oper.wp
 rw [hr]
 exact ⟨v,rfl,hv,hW,hm⟩
theorem store (hi:ops[i]? = some o) (hw:Region.wanted o (yielded ops a.tmps)=true) (w':World) (hr:(execOp a.eval o).run P w=.ok .skip w') (hv:V i undef w') (hW:W (upd live i) (a.put o.dst undef) w')
  (hm:∀ j v,live j=true→V j v w→V j v w'):Goal P ops Q V W live i o a w:=by
 unfold Goal wpOp
 rw [hi]
 simp only [hw,if_true]
 refine .inl ?_
 unfold Oper.wp
 rw [hr]
 exact ⟨undef,rfl,hv,hW,hm⟩
theorem call (hi:ops[i]? = some o) (hw:Region.wanted o (yielded ops a.tmps)=true) (f:FuncId) (args:Array Value) (hr:(execOp a.eval o).run P w=.ok (.enter f args) w)
  (hc:Calls P f args w fun e w'=>∃ v,e=.returned v∧V i v w'∧W (upd live i) (a.put o.dst v) w'∧∀ j v,live j=true→V j v w→V j v w'):Goal P ops Q V W live i o a w:=by
 unfold Goal wpOp
 rw [hi]
 simp only [hw,if_true]
 refine .inl ?_
 unfold Oper.wp
 rw [hr]
 refine hc.mono fun e w' he=>?_
 obtain ⟨v,rfl,h1,h2,h3⟩:=he
 exact ⟨v,rfl,h1,h2,h3⟩
theorem skip (hi:ops[i]? = some o) (hw:Region.wanted o (yielded ops a.tmps)=false) (hv:V i undef w) (hW:W (upd live i) (a.put o.dst undef) w):Goal P ops Q V W live i o a w:=by
 unfold Goal wpOp
 rw [hi]
 simp only [hw]
 exact ⟨undef,rfl,hv,hW,fun _ _ _ h=>h⟩
end
theorem foldl_set (g:Nat→Value) (ws:List Nat):∀ arr:Array Value,(ws.foldl (fun r t=>r.setIfInBounds t (g t)) arr).size=arr.size∧∀ t,t < arr.size→(ws.foldl (fun r t=>r.setIfInBounds t (g t)) arr)[t]? = if t∈ws then some (g t) else arr[t]?:=by
 induction ws with
 | nil=>intro arr;exact ⟨rfl,fun t _=>by simp⟩
 | cons x ws ih =>
  intro arr
  rw [List.foldl_cons]
  obtain ⟨h1,h2⟩:=ih (arr.setIfInBounds x (g x))
  refine ⟨by rw [h1];simp,fun t ht=>?_⟩
  rw [h2 t (by simpa using ht)]
  by_cases hm:t∈ws
  ·rw [if_pos hm,if_pos (List.mem_cons_of_mem _ hm)]
  ·rw [if_neg hm]
   by_cases hx:t=x
   ·subst hx
    rw [if_pos List.mem_cons_self]
    simp [ht]
   ·rw [if_neg (by simp [hx,hm]),Array.getElem?_setIfInBounds_ne (Ne.symm hx)]
theorem act_ws {ops:Array Oper} (a:Act) (T:Array Value) (dl:List Deferred) (hs:a.tmps.size=T.size) (hd:a.defers=dl) (E:∀ t,writes ops t=false→a.eval (.tmp t)=(Act.mk T dl).eval (.tmp t)) (ws:List Nat)
  (hw:((List.range T.size).all fun t=>!writes ops t || ws.contains t)=true):a=⟨ws.foldl (fun r t=>r.setIfInBounds t (a.eval (.tmp t))) T,dl⟩:=by
 obtain ⟨h1,h2⟩:=foldl_set (fun t=>a.eval (.tmp t)) ws T
 obtain ⟨tmps,defers⟩:=a
 simp only at hs hd
 subst hd
 congr 1
 apply Array.ext_getElem?
 intro t
 by_cases ht:t < T.size
 ·rw [h2 t ht]
  have hta:tmps[t]? = some ((Act.mk tmps defers).eval (.tmp t)):=by
   have:t < tmps.size:=by omega
   simp [Act.eval,this]
  by_cases hm:t∈ws
  ·rw [if_pos hm,hta]
  ·rw [if_neg hm,hta]
   have hnw:writes ops t=false:=by
    have:=List.all_eq_true.1 hw t (List.mem_range.2 ht)
    simp only [Bool.or_eq_true,Bool.not_eq_true'] at this
    rcases this with h | h
    ·exact h
    ·exact absurd (List.contains_iff_mem.1 h) hm
   rw [E t hnw]
   simp [Act.eval,ht]
 ·rw [Array.getElem?_eq_none (by omega),Array.getElem?_eq_none (by rw [h1];omega)]
def StW (w0:World) (N:Nat) (p:Addr) (v:Value) (live:Nat→Bool) (w:World):Prop:=w=if live N=true then w0.setCell p v else w0
section
variable {w0 w:World} {N i:Nat} {p:Addr} {v:Value} {live:Nat→Bool}
theorem StW.off (h:StW w0 N p v live w) (hl:live N=false):w=w0:=by unfold StW at h;rw [hl] at h;exact h
theorem StW.upd (h:StW w0 N p v live w) (hi:i≠N):StW w0 N p v (upd live i) w:=by
 have e:Rgs.upd live i N=live N:=by unfold Rgs.upd;simp [Ne.symm hi]
 unfold StW at h ⊢
 rw [e];exact h
theorem StW.put (w0:World) (N:Nat) (p:Addr) (v:Value) (live:Nat→Bool):StW w0 N p v (Rgs.upd live N) (w0.setCell p v):=by
 unfold StW
 rw [upd_self];rfl
theorem StW.on (h:StW w0 N p v live w) (hl:live N=true):w=w0.setCell p v:=by unfold StW at h;rw [hl] at h;exact h
end
def StW2 (w0:World) (N M:Nat) (p q:Addr) (u v:Value) (live:Nat→Bool) (w:World):Prop:=w=if live M=true then (w0.setCell p u).setCell q v else if live N=true then w0.setCell p u else w0
section
variable {w0 w:World} {N M i:Nat} {p q:Addr} {u v:Value} {live:Nat→Bool}
theorem StW2.any (h:StW2 w0 N M p q u v live w):w=w0∨w=w0.setCell p u∨w=(w0.setCell p u).setCell q v:=by
 unfold StW2 at h
 split at h
 ·exact .inr (.inr h)
 ·split at h
  ·exact .inr (.inl h)
  ·exact .inl h
theorem StW2.upd (h:StW2 w0 N M p q u v live w) (h1:i≠N) (h2:i≠M):StW2 w0 N M p q u v (upd live i) w:=by
 have e1:Rgs.upd live i N=live N:=by unfold Rgs.upd;simp [Ne.symm h1]
 have e2:Rgs.upd live i M=live M:=by unfold Rgs.upd;simp [Ne.symm h2]
 unfold StW2 at h ⊢
 rw [e1,e2];exact h
theorem StW2.off (h:StW2 w0 N M p q u v live w) (h1:live N=false) (h2:live M=false):w=w0:=by unfold StW2 at h;rw [h1,h2] at h;exact h
theorem StW2.on (h:StW2 w0 N M p q u v live w) (h2:live M=true):w=(w0.setCell p u).setCell q v:=by unfold StW2 at h;rw [h2] at h;exact h
theorem StW2.put1 (w0:World) (hMN:M≠N) (p q:Addr) (u v:Value) (live:Nat→Bool) (h2:live M=false):StW2 w0 N M p q u v (Rgs.upd live N) (w0.setCell p u):=by
 unfold StW2
 have e2:Rgs.upd live N M=false:=by unfold Rgs.upd;simp [hMN,h2]
 rw [upd_self,e2];rfl
theorem StW2.put2 (w0:World) (N M:Nat) (p q:Addr) (u v:Value) (live:Nat→Bool):StW2 w0 N M p q u v (Rgs.upd live M) ((w0.setCell p u).setCell q v):=by
 unfold StW2
 rw [upd_self];rfl
end
def StG (w0 w1 w2:World) (N M:Nat) (live:Nat→Bool) (w:World):Prop:=w=if live M=true then w2 else if live N=true then w1 else w0
section
variable {w0 w1 w2 w:World} {N M i:Nat} {live:Nat→Bool}
theorem StG.upd (h:StG w0 w1 w2 N M live w) (h1:i≠N) (h2:i≠M):StG w0 w1 w2 N M (Rgs.upd live i) w:=by
 have e1:Rgs.upd live i N=live N:=by unfold Rgs.upd;simp [Ne.symm h1]
 have e2:Rgs.upd live i M=live M:=by unfold Rgs.upd;simp [Ne.symm h2]
 unfold StG at h ⊢
 rw [e1,e2];exact h
theorem StG.off (h:StG w0 w1 w2 N M live w) (h1:live N=false) (h2:live M=false):w=w0:=by unfold StG at h;rw [h1,h2] at h;exact h
theorem StG.on (h:StG w0 w1 w2 N M live w) (h2:live M=true):w=w2:=by unfold StG at h;rw [h2] at h;exact h
theorem StG.put1 (w0 w1 w2:World) (hMN:M≠N) (live:Nat→Bool) (h2:live M=false):StG w0 w1 w2 N M (Rgs.upd live N) w1:=by
 unfold StG
 have e2:Rgs.upd live N M=false:=by unfold Rgs.upd;simp [hMN,h2]
 rw [upd_self,e2];rfl
theorem StG.put2 (w0 w1 w2:World) (N M:Nat) (live:Nat→Bool):StG w0 w1 w2 N M (Rgs.upd live M) w2:=by
 unfold StG
 rw [upd_self];rfl
end
end Rgs
end Go.Proofs.YtfmndmhjjbeokaaGreatDoor
