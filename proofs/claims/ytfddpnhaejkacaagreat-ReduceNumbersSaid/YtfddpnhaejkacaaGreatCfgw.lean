import Derived.Test.YtfddpnhaejkacaaGreatCfgs
import Derived.Test.YtfddpnhaejkacaaGreatLow7
set_option linter.unusedSimpArgs false
set_option linter.unusedVariables false
namespace Go.Proofs.YtfddpnhaejkacaaGreat
open Go.RowKit Tab
theorem elPc:Elt 65 70 2 16 (.agg #[.int .i64 0,.int .i64 0]):=⟨Tryz.underlying65,by kernel_rfl,rfl,by omega⟩
theorem elPt:Elt 27 68 11 104 (.agg #[.string ⟨#[]⟩,.int .i64 0,.int .i64 0,.bool false,.bool false,.slice none 0 0,.int .i64 0,.int .i64 0,.int .i64 0,.int .i64 0,.int .i64 0]):=⟨Tryz.underlying27,by kernel_rfl,rfl,by omega⟩
theorem elCh:Elt 28 42 6 48 (.agg #[.int .i64 0,.int .i64 0,.bool false,.int .i64 0,.int .u32 0,.int .i64 0]):=⟨Tryz.underlying28,by kernel_rfl,rfl,by omega⟩
theorem elNN:Elt 29 37 1 24 (.slice none 0 0):=⟨Tryz.underlying29,by kernel_rfl,rfl,by omega⟩
structure Rnd (B b:Nat) (A:Option Addr) (m c:Nat) (f:Nat→Int) (wr w:World):Prop where
 on:Only (fun k=>k=b) wr w
 tp:∃ at_,TapeW w B b A m c f at_
section
variable {B b:Nat} {A:Option Addr} {m c:Nat} {f:Nat→Int} {wr w w':World}
theorem Rnd.next {at_:Nat} (h:Rnd B b A m c f wr w) (T:TapeW w' B b A m c f at_) (hg:w.grownBy w' (some b)):Rnd B b A m c f wr w':=⟨h.on.trans (Only.gb hg rfl),⟨at_,T⟩⟩
theorem Rnd.blw {g:Nat} (h:Rnd B b A m c f wr w) (hg:wr.heap.size≤g) (hb:b < g) (hw:Below g w w'):Rnd B b A m c f wr w':=by
 obtain⟨at_,T⟩:=h.tp
 exact⟨⟨hw.os.trans h.on.os,hw.tape.trans h.on.tape,hw.output.trans h.on.output,Nat.le_trans h.on.size hw.size,fun k hk hn=>(hw.block k (by omega)).trans (h.on.block k hk hn)⟩,⟨at_,T.below hw hb⟩⟩
theorem Rnd.bel (h:Rnd B b A m c f wr w) (hb:b < wr.heap.size) (hw:Below w.heap.size w w'):Rnd B b A m c f wr w':=by
 obtain⟨at_,T⟩:=h.tp
 exact⟨h.on.trans (Only.bel hw),⟨at_,T.below hw (Nat.lt_of_lt_of_le hb h.on.size)⟩⟩
end
def pvf (x:PtV) (j:Nat):Value:=(pcl x)[j]?.getD (.bool false)
def prc (q:Int×Int):List Value:=[.int .i64 q.1,.int .i64 q.2]
theorem prc_len (q:Int×Int):(prc q).length=2:=rfl
theorem prc_one (l:List (Int×Int)):∀ u∈l.flatMap prc,u.oneCell'=true:=by
 intro u hu
 obtain⟨x,_,hx⟩:=List.mem_flatMap.1 hu
 simp[prc] at hx
 rcases hx with rfl | rfl <;> rfl
structure PrtS (gx:Nat) (x:PtV) (L:List (Int×Int)) (w:World):Prop where
 ve:Vec w gx 11 (pvf x)
 pr:OwnV 70 2 w (gx+1) x.pa x.pn x.pc (L.flatMap prc)
section
variable {gx:Nat} {x:PtV} {L:List (Int×Int)} {w w':World}
theorem PrtS.keep (h:PrtS gx x L w) (hs:w.heap.size≤w'.heap.size) (hk:∀ k,gx≤k→k < w.heap.size→w'.heap[k]? = w.heap[k]?):PrtS gx x L w' :=
 ⟨h.ve.keep (hk gx (Nat.le_refl _) h.ve.lt) hs,h.pr.keep fun k h1 h2=>hk k (by omega) h2⟩
theorem PrtS.gb {b:Nat} (h:PrtS gx x L w) (hg:w.grownBy w' (some b)) (hb:b < gx):PrtS gx x L w':=h.keep hg.size fun k h1 h2=>hg.block k h2 fun e=>by injection e with e;omega
theorem PrtS.bel (h:PrtS gx x L w) (hb:Below w.heap.size w w'):PrtS gx x L w':=h.keep hb.size fun k _ h2=>hb.block k h2
theorem PrtS.at_ (h:PrtS gx x L w):ProcsAt w w.heap.size x.pa x.pn:=fun i hi=>by
 have hl:L.length=x.pn:=by
  have:=h.pr.len
  rw[flat_len prc_len] at this
  omega
 have hr:RdB prc w w.heap.size x.pa x.pn L:=⟨hl,h.pr.rd⟩
 obtain⟨ad,q,hA,hb,_,c0,ck⟩:=hr.at_ prc_len (by omega) hi
 exact⟨ad,q.1,q.2,hA,hb,c0 _ rfl,ck 1 _ (by omega) rfl⟩
end
theorem box2_rd {w:World} {g:Nat} {v0 v1:Value} (h0:w.cell? ⟨g,0,none⟩=some v0) (h1:w.cell? ⟨g,1,none⟩=some v1):RdV w w.heap.size (some ⟨g,0,none⟩) [v0,v1]:=fun _=>by
 refine⟨_,rfl,World.block_lt_of_cell? w _ h0,fun j v hj=>?_⟩
 match j with
 | 0=>simp at hj;subst hj;simpa [Addr.add] using h0
 | 1=>simp at hj;subst hj;simpa [Addr.add] using h1
 | j+2=>simp at hj
def PcV (b gx:Nat) (x:PtV) (L:List (Int×Int)) (j:Nat) (v:Value) (w:World):Prop :=
 match j with
 | 0=>v=.pointer (some ⟨gx,5,none⟩)
 | 1=>v=.slice x.pa x.pn x.pc
 | 2=>v=.pointer (some ⟨b,0,none⟩)
 | 3=>∃ k:Nat,k < 6∧v=.int .i64 (k:Int)
 | 4=>∃ k:Int,v=.int .i64 k
 | 5=>v=.pointer (some ⟨b,0,none⟩)
 | 6=>∃ k:Int,v=.int .i64 k
 | 7=>∃ p q:Int,v=.agg #[.int .i64 p,.int .i64 q]
 | 8=>∃(g:Nat) (p q:Int),v=.slice (some ⟨g,0,none⟩) 1 1∧gx < g∧g < w.heap.size∧obk x.pa≠some g∧w.cell? ⟨g,0,none⟩=some (.int .i64 p)∧w.cell? ⟨g,1,none⟩=some (.int .i64 q)
 | 9=>∃(A':Option Addr) (c':Nat) (q:Int×Int),v=.slice A' (x.pn+1:Nat) c'∧OwnV 70 2 w (gx+1) A' (x.pn+1) c' ((L++[q]).flatMap prc)
 | 10=>v=.pointer (some ⟨gx,5,none⟩)
 | 11=>∃(A':Option Addr) (c':Nat) (q:Int×Int),PrtS gx { x with pa:=A',pn:=x.pn+1,pc:=c' } (L++[q]) w
 | _=>True
structure PcW (B b:Nat) (A:Option Addr) (m c:Nat) (f:Nat→Int) (wr:World) (gx:Nat) (x:PtV) (L:List (Int×Int)) (live:Nat→Bool) (w:World):Prop where
 rn:Rnd B b A m c f wr w
 lt:gx < w.heap.size
 ve:live 11=false→Vec w gx 11 (pvf x)
 pr:live 9=false→OwnV 70 2 w (gx+1) x.pa x.pn x.pc (L.flatMap prc)
section
variable {b gx:Nat} {x:PtV} {L:List (Int×Int)} {w w':World}
theorem PcV.keep (hs:w.heap.size≤w'.heap.size) (j:Nat) (v:Value) (hk:∀ k,(j=11∧gx≤k)∨(j=9∧gx < k)∨(j=8∧gx < k∧obk x.pa≠some k)→k < w.heap.size→w'.heap[k]? = w.heap[k]?) (h:PcV b gx x L j v w):PcV b gx x L j v w':=by
 unfold PcV at h ⊢
 split at h
 case h_9 =>
  obtain⟨g,p,q,h1,h2,h3,h4,h5,h6⟩:=h
  have hb:=hk g (.inr (.inr ⟨rfl,h2,h4⟩)) h3
  exact⟨g,p,q,h1,h2,by omega,h4,(World.cell?_of_block hb).trans h5,(World.cell?_of_block hb).trans h6⟩
 case h_10 =>
  obtain⟨A',c',q,h1,h2⟩:=h
  exact⟨A',c',q,h1,h2.keep fun k h3 h4=>hk k (.inr (.inl ⟨rfl,by omega⟩)) h4⟩
 case h_12 =>
  obtain⟨A',c',q,h1⟩:=h
  exact⟨A',c',q,h1.keep hs fun k h3 h4=>hk k (.inl ⟨rfl,h3⟩) h4⟩
 all_goals exact h
theorem PcV.gb (hb:b < gx) (hg:w.grownBy w' (some b)) (j:Nat) (v:Value) (h:PcV b gx x L j v w):PcV b gx x L j v w' :=
 h.keep hg.size j v fun k hk hl=>hg.block k hl fun e=>by
  injection e with e
  rcases hk with hk | hk | hk <;> omega
theorem PcV.bel (hb:Below w.heap.size w w') (j:Nat) (v:Value) (h:PcV b gx x L j v w):PcV b gx x L j v w':=h.keep hb.size j v fun k _ hl=>hb.block k hl
variable {B m c:Nat} {A:Option Addr} {f:Nat→Int} {wr:World} {live:Nat→Bool}
theorem PcW.upd (h:PcW B b A m c f wr gx x L live w) (i:Nat):PcW B b A m c f wr gx x L (Rgs.upd live i) w:=⟨h.rn,h.lt,fun e=>h.ve (Rgs.upd_off e),fun e=>h.pr (Rgs.upd_off e)⟩
theorem PcW.next (h:PcW B b A m c f wr gx x L live w) (hb:b < gx) {at_:Nat} (T:TapeW w' B b A m c f at_) (hg:w.grownBy w' (some b)):PcW B b A m c f wr gx x L live w' :=
 ⟨h.rn.next T hg,Nat.lt_of_lt_of_le h.lt hg.size,fun e=>(h.ve e).keep (hg.block gx h.lt fun e=>by injection e with e;omega) hg.size,fun e=>(h.pr e).gb hg (by omega)⟩
theorem PcW.bel (h:PcW B b A m c f wr gx x L live w) (hb:b < wr.heap.size) (hw:Below w.heap.size w w'):PcW B b A m c f wr gx x L live w' :=
 ⟨h.rn.bel hb hw,Nat.lt_of_lt_of_le h.lt hw.size,fun e=>(h.ve e).on hw,fun e=>(h.pr e).below rfl hw⟩
end
theorem pcl_one (l:List PtV):∀ u∈l.flatMap pcl,u.oneCell'=true:=by
 intro u hu
 obtain⟨x,_,hx⟩:=List.mem_flatMap.1 hu
 simp[pcl] at hx
 rcases hx with rfl | rfl | rfl | rfl | rfl | rfl | rfl | rfl | rfl | rfl | rfl <;> rfl
theorem cc_one (l:List ChV):∀ u∈l.flatMap cc,u.oneCell'=true:=by
 intro u hu
 obtain⟨x,_,hx⟩:=List.mem_flatMap.1 hu
 simp[cc] at hx
 rcases hx with rfl | rfl | rfl | rfl | rfl | rfl <;> rfl
theorem tcl_one (l:List TbV):∀ u∈l.flatMap tcl,u.oneCell'=true:=by
 intro u hu
 obtain⟨x,_,hx⟩:=List.mem_flatMap.1 hu
 simp[tcl] at hx
 subst hx
 rfl
theorem PrtS.heal {gx:Nat} {x:PtV} {L:List (Int×Int)} {w:World} (h:PrtS gx x L w) {j:Nat} (hj:j < 5) (z:Int):∃ x':PtV,x'.pa=x.pa∧x'.pn=x.pn∧x'.pc=x.pc∧x'.per=x.per∧x'.bud=x.bud∧x'.name=x.name∧PrtS gx x' L (w.setCell ⟨gx,6+j,none⟩ (.int .i64 z)):=by
 have hpr:OwnV 70 2 (w.setCell ⟨gx,6+j,none⟩ (.int .i64 z)) (gx+1) x.pa x.pn x.pc (L.flatMap prc):=h.pr.other _ _ fun g e e2=>by have:=(h.pr.obk_ge (b:=g) (by rw[e];rfl)).1;have e2:g=gx:=e2;omega
 have hv:=h.ve.set (6+j) (.int .i64 z)
 rcases(by omega:j=0∨j=1∨j=2∨j=3∨j=4) with rfl | rfl | rfl | rfl | rfl
 ·exact⟨{ x with h0:=z },rfl,rfl,rfl,rfl,rfl,rfl,hv.congr fun i hi=>by rcases(by omega:i=0∨i=1∨i=2∨i=3∨i=4∨i=5∨i=6∨i=7∨i=8∨i=9∨i=10) with rfl | rfl | rfl | rfl | rfl | rfl | rfl | rfl | rfl | rfl | rfl <;> rfl,hpr⟩
 ·exact⟨{ x with h1:=z },rfl,rfl,rfl,rfl,rfl,rfl,hv.congr fun i hi=>by rcases(by omega:i=0∨i=1∨i=2∨i=3∨i=4∨i=5∨i=6∨i=7∨i=8∨i=9∨i=10) with rfl | rfl | rfl | rfl | rfl | rfl | rfl | rfl | rfl | rfl | rfl <;> rfl,hpr⟩
 ·exact⟨{ x with h2:=z },rfl,rfl,rfl,rfl,rfl,rfl,hv.congr fun i hi=>by rcases(by omega:i=0∨i=1∨i=2∨i=3∨i=4∨i=5∨i=6∨i=7∨i=8∨i=9∨i=10) with rfl | rfl | rfl | rfl | rfl | rfl | rfl | rfl | rfl | rfl | rfl <;> rfl,hpr⟩
 ·exact⟨{ x with h3:=z },rfl,rfl,rfl,rfl,rfl,rfl,hv.congr fun i hi=>by rcases(by omega:i=0∨i=1∨i=2∨i=3∨i=4∨i=5∨i=6∨i=7∨i=8∨i=9∨i=10) with rfl | rfl | rfl | rfl | rfl | rfl | rfl | rfl | rfl | rfl | rfl <;> rfl,hpr⟩
 ·exact⟨{ x with h4:=z },rfl,rfl,rfl,rfl,rfl,rfl,hv.congr fun i hi=>by rcases(by omega:i=0∨i=1∨i=2∨i=3∨i=4∨i=5∨i=6∨i=7∨i=8∨i=9∨i=10) with rfl | rfl | rfl | rfl | rfl | rfl | rfl | rfl | rfl | rfl | rfl <;> rfl,hpr⟩
def zch:ChV:=⟨0,0,false,0,0,0⟩
def ccf (x:ChV) (j:Nat):Value:=(cc x)[j]?.getD (.bool false)
def ChOk (n:Nat) (x:ChV):Prop:=0≤x.from_∧x.from_ < n∧0≤x.to_∧x.to_ < n
def ChNew (n:Nat) (x:ChV):Prop:=ChOk n x∧x.late=0
def ChqV (b base n fr:Nat) (j:Nat) (v:Value) (w:World):Prop :=
 match j with
 | 0=>v=.int .i64 (fr:Int)
 | 1=>v=.int .i64 (fr:Int)
 | 2=>v=.int .i64 ((fr:Int)+1)
 | 3=>v=.pointer (some ⟨b,0,none⟩)
 | 4=>v=.int .i64 (n:Int)
 | 5=>v=.int .i64 ((n:Int) - 1)
 | 6=>∃ k:Nat,k < n - 1∧v=.int .i64 (k:Int)
 | 7=>∃ k:Nat,k < n - 1∧v=.int .i64 ((fr:Int)+1+(k:Int))
 | 8=>v=.int .i64 (n:Int)
 | 9=>∃ k:Nat,k < n∧v=.int .i64 (k:Int)
 | 10=>v=.pointer (some ⟨b,0,none⟩)
 | 11=>∃ k:Int,v=.int .i64 k
 | 12=>∃ q:Bool,v=.bool q
 | 13=>∃ g:Nat,v=.slice (some ⟨g,0,none⟩) 3 3∧base≤g∧g < w.heap.size∧∀ k,k < 3→∃ z,w.cell? ⟨g,k,none⟩=some (.int .u32 z)
 | 14=>v=.pointer (some ⟨b,0,none⟩)
 | 15=>∃ k:Nat,k < 3∧v=.int .i64 (k:Int)
 | 16=>∃(g k:Nat) (z:Int),v=.pointer (some ⟨g,k,none⟩)∧base≤g∧g < w.heap.size∧w.cell? ⟨g,k,none⟩=some (.int .u32 z)∧∃ z,w.cell? ⟨g,0,none⟩=some (.int .u32 z)
 | 17=>∃ z:Int,v=.int .u32 z
 | 18=>∃ x:ChV,ChNew n x∧v=cv x
 | _=>True
structure ChqW (B b:Nat) (A:Option Addr) (m c:Nat) (f:Nat→Int) (wr:World) (n:Nat) (live:Nat→Bool) (a:Act) (w:World):Prop where
 rn:Rnd B b A m c f wr w
 un:live 19=true→live 20=false→∃ g,a.eval (.tmp 11)=.pointer (some ⟨g,0,none⟩)∧wr.heap.size≤g∧Vec w g 6 (ccf zch)
 at_:live 20=true→∃ g x,a.eval (.tmp 11)=.pointer (some ⟨g,0,none⟩)∧wr.heap.size≤g∧ChNew n x∧Vec w g 6 (ccf x)
section
variable {b base n fr:Nat} {w w':World}
theorem ChqV.keep (hs:w.heap.size≤w'.heap.size) (j:Nat) (v:Value) (hk:∀ k,base≤k→(∃ z,w.cell? ⟨k,0,none⟩=some (.int .u32 z))→k < w.heap.size→w'.heap[k]? = w.heap[k]?) (h:ChqV b base n fr j v w):ChqV b base n fr j v w':=by
 unfold ChqV at h ⊢
 split at h
 case h_14 =>
  obtain⟨g,h1,h2,h3,h4⟩:=h
  exact⟨g,h1,h2,by omega,fun k hk3=>by
   obtain⟨z,hz⟩:=h4 k hk3
   exact⟨z,(World.cell?_of_block (hk g h2 (h4 0 (by omega)) h3)).trans hz⟩⟩
 case h_17 =>
  obtain⟨g,k,z,h1,h2,h3,h4,z0,h5⟩:=h
  exact⟨g,k,z,h1,h2,by omega,(World.cell?_of_block (hk g h2 ⟨z0,h5⟩ h3)).trans h4,z0,(World.cell?_of_block (hk g h2 ⟨z0,h5⟩ h3)).trans h5⟩
 all_goals exact h
theorem ChqV.gb (hb:b < base) (hg:w.grownBy w' (some b)) (j:Nat) (v:Value) (h:ChqV b base n fr j v w):ChqV b base n fr j v w' :=
 h.keep hg.size j v fun k hk _ hl=>hg.block k hl fun e=>by injection e with e;omega
theorem ChqV.bel (hb:Below w.heap.size w w') (j:Nat) (v:Value) (h:ChqV b base n fr j v w):ChqV b base n fr j v w':=h.keep hb.size j v fun k _ _ hl=>hb.block k hl
variable {B m c:Nat} {A:Option Addr} {f:Nat→Int} {wr:World} {live:Nat→Bool} {a:Act}
theorem ChqW.upd (h:ChqW B b A m c f wr n live a w) (i:Nat) (d:Tmp) (v:Value) (hi:i≠19∧i≠20) (hd:d≠11):ChqW B b A m c f wr n (Rgs.upd live i) (a.put (some d) v) w:=by
 have e1:Rgs.upd live i 19=live 19:=by unfold Rgs.upd;simp[Ne.symm hi.1]
 have e2:Rgs.upd live i 20=live 20:=by unfold Rgs.upd;simp[Ne.symm hi.2]
 refine⟨h.rn,fun h1 h2=>?_,fun h1=>?_⟩
 ·rw[Reg.eval_other _ _ _ _ hd]
  exact h.un (e1▸h1) (e2▸h2)
 ·rw[Reg.eval_other _ _ _ _ hd]
  exact h.at_ (e2▸h1)
theorem ChqW.next (h:ChqW B b A m c f wr n live a w) (hb:b < wr.heap.size) {at_:Nat} (T:TapeW w' B b A m c f at_) (hg:w.grownBy w' (some b)):ChqW B b A m c f wr n live a w':=by
 refine⟨h.rn.next T hg,fun h1 h2=>?_,fun h1=>?_⟩
 ·obtain⟨g,e,hle,hv⟩:=h.un h1 h2
  exact⟨g,e,hle,hv.keep (hg.block g hv.lt fun e=>by injection e with e;omega) hg.size⟩
 ·obtain⟨g,x,e,hle,ho,hv⟩:=h.at_ h1
  exact⟨g,x,e,hle,ho,hv.keep (hg.block g hv.lt fun e=>by injection e with e;omega) hg.size⟩
theorem ChqW.bel (h:ChqW B b A m c f wr n live a w) (hb:b < wr.heap.size) (hw:Below w.heap.size w w'):ChqW B b A m c f wr n live a w':=by
 refine⟨h.rn.bel hb hw,fun h1 h2=>?_,fun h1=>?_⟩
 ·obtain⟨g,e,hle,hv⟩:=h.un h1 h2
  exact⟨g,e,hle,hv.on hw⟩
 ·obtain⟨g,x,e,hle,ho,hv⟩:=h.at_ h1
  exact⟨g,x,e,hle,ho,hv.on hw⟩
end
structure TbGood (BB:Nat) (A1 A2 A3:Option Addr) (x:TbV) (w:World):Prop where
 at_:TbAt w w.heap.size x∧Frame x
 ap:∀ k,obk x.A=some k→BB≤k∧k < w.heap.size∧obk A1≠some k∧obk A2≠some k∧obk A3≠some k
theorem TbGood.only {BB:Nat} {A1 A2 A3:Option Addr} {x:TbV} {w w':World} {p:Nat→Prop} (h:TbGood BB A1 A2 A3 x w) (ho:Only p w w') (hp:∀ k,p k→k < BB∨obk A3=some k):TbGood BB A1 A2 A3 x w' :=
 ⟨⟨h.at_.1.only ho fun k hk e=>by
   have h1:=h.ap k hk
   rcases hp k e with e | e
   ·omega
   ·exact h1.2.2.2.2 e,h.at_.2⟩,fun k hk=>⟨(h.ap k hk).1,Nat.lt_of_lt_of_le (h.ap k hk).2.1 ho.size,(h.ap k hk).2.2⟩⟩
section
variable (B b:Nat) (A:Option Addr) (m c:Nat) (f:Nat→Int) (w0:World) (gr gc BB:Nat) (A1 A2 A3:Option Addr) (n1 n2 n3 c1 c2 c3:Nat) (P:List PtV) (C:List ChV) (T:List TbV)
def TbqV (j:Nat) (v:Value) (w:World):Prop :=
 match j with
 | 0=>v=.pointer (some ⟨gc,2,none⟩)
 | 1=>v=.slice A3 n3 c3
 | 2=>v=.pointer (some ⟨b,0,none⟩)
 | 3=>v=.int .i64 (n1:Int)
 | 4=>∃ x:TbV,v=.slice x.A x.n x.c∧TbGood BB A1 A2 A3 x w
 | 5=>∃(g:Nat) (x:TbV),v=.slice (some ⟨g,0,none⟩) 1 1∧BB≤g∧g < w.heap.size∧obk A3≠some g∧w.cell? ⟨g,0,none⟩=some (.slice x.A x.n x.c)∧TbGood BB A1 A2 A3 x w
 | 6=>w.cell? ⟨gc,2,none⟩=some (.slice A3 n3 c3)→∃(A':Option Addr) (c':Nat) (w1:World) (x:TbV),v=.slice A' (n3+1:Nat) c'∧CfgS B b A m c f w0 gr gc BB A1 A2 A3 n1 n2 n3 c1 c2 c3 P C T w1∧TbGood BB A1 A2 A3 x w1∧Grew A3 A' w1 w∧OwnV 37 1 w BB A' (n3+1) c' ((T++[x]).flatMap tcl)
 | 7=>v=.pointer (some ⟨gc,2,none⟩)
 | 8=>∃(A':Option Addr) (c':Nat) (x:TbV),CfgS B b A m c f w0 gr gc BB A1 A2 A' n1 n2 (n3+1) c1 c2 c' P C (T++[x]) w
 | _=>True
structure TbqW (live:Nat→Bool) (w:World):Prop where
 cf:live 6=false→CfgS B b A m c f w0 gr gc BB A1 A2 A3 n1 n2 n3 c1 c2 c3 P C T w
 ce:live 8=false→w.cell? ⟨gc,2,none⟩=some (.slice A3 n3 c3)∧w.frozen? ⟨gc,2,none⟩=false∧BB≤w.heap.size
end
section
variable {B b:Nat} {A:Option Addr} {m c:Nat} {f:Nat→Int} {w0:World} {gr gc BB:Nat} {A1 A2 A3:Option Addr} {n1 n2 n3 c1 c2 c3:Nat} {P:List PtV} {C:List ChV} {T:List TbV} {w w':World} {live:Nat→Bool}
theorem TbqW.upd (h:TbqW B b A m c f w0 gr gc BB A1 A2 A3 n1 n2 n3 c1 c2 c3 P C T live w) (i:Nat):TbqW B b A m c f w0 gr gc BB A1 A2 A3 n1 n2 n3 c1 c2 c3 P C T (Rgs.upd live i) w:=⟨fun e=>h.cf (Rgs.upd_off e),fun e=>h.ce (Rgs.upd_off e)⟩
theorem TbqV.keep {p:Nat→Prop} (j:Nat) (v:Value) (ho:Only p w w') (hp:∀ k,p k→k < BB∨obk A3=some k) (h6:j≠6) (h8:j≠8) (h:TbqV B b A m c f w0 gr gc BB A1 A2 A3 n1 n2 n3 c1 c2 c3 P C T j v w):TbqV B b A m c f w0 gr gc BB A1 A2 A3 n1 n2 n3 c1 c2 c3 P C T j v w':=by
 unfold TbqV at h ⊢
 split at h
 case h_5 =>
  obtain⟨x,h1,h2⟩:=h
  exact⟨x,h1,h2.only ho hp⟩
 case h_6 =>
  obtain⟨g,x,h1,h2,h3,h4,h5,h6⟩:=h
  refine⟨g,x,h1,h2,Nat.lt_of_lt_of_le h3 ho.size,h4,(World.cell?_of_block (ho.block g h3 fun e=>?_)).trans h5,h6.only ho hp⟩
  rcases hp g e with e | e
  ·omega
  ·exact h4 e
 case h_7=>exact absurd rfl h6
 case h_9=>exact absurd rfl h8
 all_goals exact h
theorem Only.grew {A0 A':Option Addr} (h:Grew A0 A' w w'):Only (fun k=>obk A0=some k) w w':=⟨h.gb.os,h.gb.tape,h.gb.output,h.gb.size,fun k hk hn=>h.gb.block k hk fun e=>hn e.symm⟩
end
theorem box1_rd {w:World} {g:Nat} {v0:Value} (h0:w.cell? ⟨g,0,none⟩=some v0):RdV w w.heap.size (some ⟨g,0,none⟩) [v0]:=fun _=>by
 refine⟨_,rfl,World.block_lt_of_cell? w _ h0,fun j v hj=>?_⟩
 match j with
 | 0=>simp at hj;subst hj;simpa [Addr.add] using h0
 | j+1=>simp at hj
def CfgP (B b:Nat) (A:Option Addr) (m c:Nat) (f:Nat→Int) (w:World) (e:Ending) (w':World):Prop :=
 ∃(A1 A2 A3:Option Addr) (n1 n2 n3 c1 c2 c3:Nat) (P:List PtV) (C:List ChV) (T:List TbV) (at':Nat),e=.returned (.agg #[.slice A1 n1 c1,.slice A2 n2 c2,.slice A3 n3 c3])∧CfW w' w'.heap.size A1 A2 n1 n2 P C∧1≤n1∧n1≤4∧n2≤3∧n1≤c1∧n2≤c2 ∧
  (∀ x∈C,ChOk n1 x)∧RdB tcl w' w'.heap.size A3 n3 T∧(∀ t∈T,TbAt w' w'.heap.size t∧Frame t)∧1≤n3∧n3≤2∧n3≤c3∧TapeW w' B b A m c f at'∧w.grownBy w' (some b)
def CfgPx (B b:Nat) (A:Option Addr) (m c:Nat) (f:Nat→Int) (w:World) (e:Ending) (w':World):Prop :=
 ∃(A1 A2 A3:Option Addr) (n1 n2 n3 c1 c2 c3:Nat) (P:List PtV) (C:List ChV) (T:List TbV) (at':Nat),e=.returned (.agg #[.slice A1 n1 c1,.slice A2 n2 c2,.slice A3 n3 c3])∧CfW w' w'.heap.size A1 A2 n1 n2 P C∧1≤n1∧n1≤4∧n2≤3∧n1≤c1∧n2≤c2 ∧
  (∀ x∈C,ChOk n1 x)∧RdB tcl w' w'.heap.size A3 n3 T∧(∀ t∈T,TbAt w' w'.heap.size t∧Frame t)∧1≤n3∧n3≤2∧n3≤c3∧TapeW w' B b A m c f at'∧w.grownBy w' (some b) ∧
  (∀ x∈P,In64 x.per)∧(∀ x∈C,∀ t∈T,chLate (wordsL (rowF t)) x=false)∧(∀ k x,P[k]? = some x→∀ t∈T,ptShort (wordsL (rowF t)) k x=false) ∧
  OwnB 68 11 pcl w' w.heap.size A1 n1 c1 P∧OwnB 42 6 cc w' w.heap.size A2 n2 c2 C∧(∀ k,obk A1=some k→obk A2≠some k)
def CfgPz (B b:Nat) (A:Option Addr) (m c:Nat) (f:Nat→Int) (w:World) (e:Ending) (w':World):Prop :=
 ∃(A1 A2 A3:Option Addr) (n1 n2 n3 c1 c2 c3:Nat) (P:List PtV) (C:List ChV) (T:List TbV) (at':Nat),e=.returned (.agg #[.slice A1 n1 c1,.slice A2 n2 c2,.slice A3 n3 c3])∧CfW w' w'.heap.size A1 A2 n1 n2 P C∧1≤n1∧n1≤4∧n2≤3∧n1≤c1∧n2≤c2 ∧
  (∀ x∈C,ChOk n1 x)∧RdB tcl w' w'.heap.size A3 n3 T∧(∀ t∈T,TbAt w' w'.heap.size t∧Frame t)∧1≤n3∧n3≤2∧n3≤c3∧TapeW w' B b A m c f at'∧w.grownBy w' (some b) ∧
  (∀ x∈P,In64 x.per)∧(∀ x∈C,∀ t∈T,chLate (wordsL (rowF t)) x=false)∧(∀ k x,P[k]? = some x→∀ t∈T,ptShort (wordsL (rowF t)) k x=false) ∧
  OwnB 68 11 pcl w' w.heap.size A1 n1 c1 P∧OwnB 42 6 cc w' w.heap.size A2 n2 c2 C∧(∀ k,obk A1=some k→obk A2≠some k) ∧
  (∀ k,obk A3=some k→w.heap.size≤k)∧(∀ t∈T,∀ k,obk t.A=some k→w.heap.size≤k)
theorem CfgPz.x {B b:Nat} {A:Option Addr} {m c:Nat} {f:Nat→Int} {w w':World} {e:Ending} (h:CfgPz B b A m c f w e w'):CfgPx B b A m c f w e w':=by
 obtain⟨A1,A2,A3,n1,n2,n3,c1,c2,c3,P,C,T,at',h1,h2,h3,h4,h5,h6,h7,h8,h9,h10,h11,h12,h13,h14,h15,h16,h17,h18,h19,h20,h21,_⟩:=h
 exact⟨A1,A2,A3,n1,n2,n3,c1,c2,c3,P,C,T,at',h1,h2,h3,h4,h5,h6,h7,h8,h9,h10,h11,h12,h13,h14,h15,h16,h17,h18,h19,h20,h21⟩
theorem CfgPx.p {B b:Nat} {A:Option Addr} {m c:Nat} {f:Nat→Int} {w w':World} {e:Ending} (h:CfgPx B b A m c f w e w'):CfgP B b A m c f w e w':=by
 obtain⟨A1,A2,A3,n1,n2,n3,c1,c2,c3,P,C,T,at',h1,h2,h3,h4,h5,h6,h7,h8,h9,h10,h11,h12,h13,h14,h15,_⟩:=h
 exact⟨A1,A2,A3,n1,n2,n3,c1,c2,c3,P,C,T,at',h1,h2,h3,h4,h5,h6,h7,h8,h9,h10,h11,h12,h13,h14,h15⟩
def pO (b:Nat) (A1 A2:Option Addr) (k:Nat):Prop:=k=b∨obk A1=some k∨obk A2=some k
section
variable {B b:Nat} {A:Option Addr} {m c:Nat} {f:Nat→Int} {w:World} {gr gc BB:Nat} {A1 A2 A3:Option Addr} {n1 n2 n3 c1 c2 c3:Nat} {P P':List PtV} {C C':List ChV} {T:List TbV} {wr w':World}
theorem CfgS.asked (h:CfgS B b A m c f w gr gc BB A1 A2 A3 n1 n2 n3 c1 c2 c3 P C T wr) (hB:CfgB b w gr gc BB):Asked (pO b A1 A2) wr A3 n3 P T:=by
 have h1:=hB.br
 have h3:=hB.rc
 have h4:=hB.cB
 refine⟨h.tb.rdb,fun t ht=>(h.tt t ht).1,fun x hx=>(h.pt x hx).1,fun k hk e=>?_,fun t ht k hk e=>?_,fun x hx k hk e=>?_⟩
 ·rcases e with e | e | e
  ·have:=(h.tb.own.obk_ge hk).1;omega
  ·exact h.d13 k e hk
  ·exact h.d23 k e hk
 ·have h5:=(h.tt t ht).2 k hk
  rcases e with e | e | e
  ·omega
  ·exact h5.2.2.1 e
  ·exact h5.2.2.2.1 e
 ·have h5:=(h.pt x hx).2 k hk
  rcases e with e | e | e
  ·omega
  ·exact h5.2.2.1 e
  ·exact h5.2.2.2.1 e
theorem ChOk.of {n:Nat} (hm:C'.map chOf=C.map chOf) (hc:∀ x∈C,ChOk n x):∀ x∈C',ChOk n x:=fun x hx=>by
 have h1:chOf x∈C.map chOf:=by rw[← hm];exact List.mem_map_of_mem hx
 obtain⟨y,hy,e⟩:=List.mem_map.1 h1
 have h2:=hc y hy
 unfold chOf at e
 injection e with e1 e2 e3
 unfold ChOk at h2 ⊢
 rw[← e1,← e2]
 exact h2
theorem CfgS.fin (h:CfgS B b A m c f w gr gc BB A1 A2 A3 n1 n2 n3 c1 c2 c3 P C T wr) (hB:CfgB b w gr gc BB) (q1:1≤n1) (q2:n1≤4) (q3:n2≤3) (q4:1≤n3) (q5:n3≤2) (hc:∀ x∈C,ChOk n1 x)
  (hP:RdB pcl w' w'.heap.size A1 n1 P') (hC:RdB cc w' w'.heap.size A2 n2 C') (hm:C'.map chOf=C.map chOf) {at':Nat} (hT:TapeW w' B b A m c f at') (ho:Only (pO b A1 A2) wr w') (hi6:∀ x∈P',In64 x.per) (hlo:∀ x∈C',∀ t∈T,chLate (wordsL (rowF t)) x=false) (hso:∀ k x,P'[k]? = some x→∀ t∈T,ptShort (wordsL (rowF t)) k x=false)
  (hPo:OwnB 68 11 pcl w' BB A1 n1 c1 P') (hCo:OwnB 42 6 cc w' BB A2 n2 c2 C') :
  Vec w' gr 3 (box3 (.slice none 0 0) (.slice none 0 0) (.slice none 0 0))∧CfgPz B b A m c f w (.returned (.agg #[.slice A1 n1 c1,.slice A2 n2 c2,.slice A3 n3 c3])) (set3 w' gr (.slice A1 n1 c1) (.slice A2 n2 c2) (.slice A3 n3 c3)):=by
 have h1:=hB.br
 have h2:=hB.wr
 have h3:=hB.rc
 have h4:=hB.cB
 have hgs:=h.gb.size
 have np:∀ k,pO b A1 A2 k→k=b∨BB≤k:=fun k e=>by
  rcases e with e | e | e
  ·exact .inl e
  ·exact .inr (h.pp.own.obk_ge e).1
  ·exact .inr (h.ch.own.obk_ge e).1
 have hgr:¬ pO b A1 A2 gr:=fun e=>by have:=np gr e;omega
 have hv:=h.rs.keep (ho.block gr h.rs.lt hgr) ho.size
 have hA:=(h.asked hB).only ho
 have hs:(set3 w' gr (.slice A1 n1 c1) (.slice A2 n2 c2) (.slice A3 n3 c3)).heap.size=w'.heap.size:=by simp[set3]
 have hset:∀ k,k≠gr→(set3 w' gr (.slice A1 n1 c1) (.slice A2 n2 c2) (.slice A3 n3 c3)).heap[k]? = w'.heap[k]?:=fun k hk=>by
  unfold set3
  rw[Below.heap_setCell _ _ _ _ hk,Below.heap_setCell _ _ _ _ hk,Below.heap_setCell _ _ _ _ hk]
 have hon:Only (fun k=>k=gr) w' (set3 w' gr (.slice A1 n1 c1) (.slice A2 n2 c2) (.slice A3 n3 c3)):=⟨rfl,rfl,rfl,by rw[hs];exact Nat.le_refl _,fun k _ hk=>hset k hk⟩
 have n1':∀ k,obk A1=some k→k≠gr:=fun k e=>by have:=(h.pp.own.obk_ge e).1;omega
 have n2':∀ k,obk A2=some k→k≠gr:=fun k e=>by have:=(h.ch.own.obk_ge e).1;omega
 have hbl:Below gr w' (set3 w' gr (.slice A1 n1 c1) (.slice A2 n2 c2) (.slice A3 n3 c3)):=⟨rfl,rfl,rfl,by rw[hs];exact Nat.le_refl _,fun k hk=>hset k (by omega)⟩
 refine⟨hv,A1,A2,A3,n1,n2,n3,c1,c2,c3,P',C',T,at',rfl,⟨⟨hP.len,?_⟩,⟨hC.len,?_⟩⟩,q1,q2,q3,h.pp.cap,h.ch.cap,ChOk.of hm hc,⟨hA.t.len,?_⟩,fun t ht=>⟨?_,(hA.tt t ht).2⟩,q4,q5,h.tb.cap,hT.below hbl h1,?_,hi6,hlo,hso,?_,?_,h.d12,fun k e=>by have:=(h.tb.own.obk_ge e).1;omega,fun t ht k e=>by have:=((h.tt t ht).2 k e).1;omega⟩
 ·exact hon.rdv (B:=0) hP.rd fun k e=>n1' k e
 ·exact hon.rdv (B:=0) hC.rd fun k e=>n2' k e
 ·exact hon.rdv (B:=0) hA.t.rd fun k e=>by have:=(h.tb.own.obk_ge e).1;omega
 ·exact(hA.tt t ht).1.only hon fun k e=>by have:=((h.tt t ht).2 k e).1;omega
 ·refine⟨ho.os.trans h.gb.os,ho.tape.trans h.gb.tape,ho.output.trans h.gb.output,by rw[hs];exact Nat.le_trans hgs ho.size,fun k hk hne=>?_⟩
  have hkb:k≠b:=fun e=>hne (by rw[e])
  exact((hset k (by omega)).trans (ho.block k (by omega) fun e=>by have:=np k e;omega)).trans (h.gb.block k hk hne)
 ·exact((((hPo.other ⟨gr,0,none⟩ _ fun g e e2=>by have:=(h.pp.own.obk_ge (b:=g) (by rw[e];rfl)).1;have e2:g=gr:=e2;omega).other ⟨gr,1,none⟩ _ fun g e e2=>by have:=(h.pp.own.obk_ge (b:=g) (by rw[e];rfl)).1;have e2:g=gr:=e2;omega).other ⟨gr,2,none⟩ _ fun g e e2=>by have:=(h.pp.own.obk_ge (b:=g) (by rw[e];rfl)).1;have e2:g=gr:=e2;omega)).weak (by omega)
 ·exact((((hCo.other ⟨gr,0,none⟩ _ fun g e e2=>by have:=(h.ch.own.obk_ge (b:=g) (by rw[e];rfl)).1;have e2:g=gr:=e2;omega).other ⟨gr,1,none⟩ _ fun g e e2=>by have:=(h.ch.own.obk_ge (b:=g) (by rw[e];rfl)).1;have e2:g=gr:=e2;omega).other ⟨gr,2,none⟩ _ fun g e e2=>by have:=(h.ch.own.obk_ge (b:=g) (by rw[e];rfl)).1;have e2:g=gr:=e2;omega)).weak (by omega)
end
end Go.Proofs.YtfddpnhaejkacaaGreat
