import Derived.Test.YtdkngfdnfekgfaaGreatLot22
import Derived.Test.YtdkngfdnfekgfaaGreatLot23
import Derived.Laws.StructEq
set_option maxHeartbeats 4000000
set_option maxRecDepth 100000
set_option linter.unusedSimpArgs false
set_option linter.unusedVariables false
namespace Go.Proofs.YtdkngfdnfekgfaaGreat
open Go.RowKit Tab
theorem elPc:Elt 54 59 2 16 (.agg #[.int .i64 0,.int .i64 0]):=⟨Tryz.underlying54,by kernel_rfl,rfl,by omega⟩
theorem elPt:Elt 22 57 11 104 (.agg #[.string ⟨#[]⟩,.int .i64 0,.int .i64 0,.bool false,.bool false,.slice none 0 0,.int .i64 0,.int .i64 0,.int .i64 0,.int .i64 0,.int .i64 0]):=⟨Tryz.underlying22,by kernel_rfl,rfl,by omega⟩
theorem elCh:Elt 23 63 6 48 (.agg #[.int .i64 0,.int .i64 0,.bool false,.int .i64 0,.int .u32 0,.int .i64 0]):=⟨Tryz.underlying23,by kernel_rfl,rfl,by omega⟩
theorem elNN:Elt 24 64 1 24 (.slice none 0 0):=⟨Tryz.underlying24,by kernel_rfl,rfl,by omega⟩
structure Rnd(B b:Nat)(A:Option Addr)(m c:Nat)(f:Nat→Int)(wr w:World):Prop where
 on:Only (fun k=>k=b) wr w
 tp:∃ at_,TapeW w B b A m c f at_
section
variable {B b:Nat} {A:Option Addr} {m c:Nat} {f:Nat→Int} {wr w w':World}
theorem Rnd.next{at_:Nat}(h:Rnd B b A m c f wr w)(T:TapeW w' B b A m c f at_)(hg:w.grownBy w' (some b)):Rnd B b A m c f wr w':=⟨h.on.trans (Only.gb hg rfl),⟨at_,T⟩⟩
theorem Rnd.blw{g:Nat}(h:Rnd B b A m c f wr w)(hg:wr.heap.size≤g)(hb:b < g)(hw:Below g w w'):Rnd B b A m c f wr w':=by
 obtain⟨at_,T⟩:=h.tp;exact⟨⟨hw.os.trans h.on.os,hw.tape.trans h.on.tape,hw.output.trans h.on.output,Nat.le_trans h.on.size hw.size,fun k hk hn=>(hw.block k (by omega)).trans (h.on.block k hk hn)⟩,⟨at_,T.below hw hb⟩⟩
theorem Rnd.bel(h:Rnd B b A m c f wr w)(hb:b < wr.heap.size)(hw:Below w.heap.size w w'):Rnd B b A m c f wr w':=by
 obtain⟨at_,T⟩:=h.tp;exact⟨h.on.trans (Only.bel hw),⟨at_,T.below hw (Nat.lt_of_lt_of_le hb h.on.size)⟩⟩
end
def pvf(x:PtV)(j:Nat):Value:=(pcl x)[j]?.getD (.bool false)
def prc(q:Int×Int):List Value:=[.int .i64 q.1,.int .i64 q.2]
theorem prc_len(q:Int×Int):(prc q).length=2:=rfl
theorem prc_one(l:List (Int×Int)):∀ u∈l.flatMap prc,u.oneCell'=true:=by
 intro u hu;obtain⟨x,_,hx⟩:=List.mem_flatMap.1 hu;simp[prc] at hx;rcases hx with rfl | rfl <;> rfl
structure PrtS(gx:Nat)(x:PtV)(L:List (Int×Int))(w:World):Prop where
 ve:Vec w gx 11 (pvf x)
 pr:OwnV 59 2 w (gx+1) x.pa x.pn x.pc (L.flatMap prc)
section
variable {gx:Nat} {x:PtV} {L:List (Int×Int)} {w w':World}
theorem PrtS.keep(h:PrtS gx x L w)(hs:w.heap.size≤w'.heap.size)(hk:∀ k,gx≤k→k < w.heap.size→w'.heap[k]? = w.heap[k]?):PrtS gx x L w' :=
 ⟨h.ve.keep (hk gx (Nat.le_refl _) h.ve.lt) hs,h.pr.keep fun k h1 h2=>hk k (by omega) h2⟩
theorem PrtS.gb{b:Nat}(h:PrtS gx x L w)(hg:w.grownBy w' (some b))(hb:b < gx):PrtS gx x L w':=h.keep hg.size fun k h1 h2=>hg.block k h2 fun e=>by injection e with e;omega
theorem PrtS.bel(h:PrtS gx x L w)(hb:Below w.heap.size w w'):PrtS gx x L w':=h.keep hb.size fun k _ h2=>hb.block k h2
theorem PrtS.at_(h:PrtS gx x L w)(hL:∀ q∈L,PcOk q.1 q.2):ProcsAt w w.heap.size x.pa x.pn:=fun i hi=>by
 have hl:L.length=x.pn:=by
  have:=h.pr.len;rw[flat_len prc_len] at this;omega
 have hr:RdB prc w w.heap.size x.pa x.pn L:=⟨hl,h.pr.rd⟩;obtain⟨ad,q,hA,hb,hq,c0,ck⟩:=hr.at_ prc_len (by omega) hi;exact⟨ad,q.1,q.2,hA,hb,c0 _ rfl,ck 1 _ (by omega) rfl,hL q (List.mem_of_getElem? hq)⟩
end
theorem box2_rd{w:World}{g:Nat}{v0 v1:Value}(h0:w.cell? ⟨g,0,none⟩=some v0)(h1:w.cell? ⟨g,1,none⟩=some v1):RdV w w.heap.size (some ⟨g,0,none⟩) [v0,v1]:=fun _=>by
 refine⟨_,rfl,World.block_lt_of_cell? w _ h0,fun j v hj=>?_⟩
 match j with
 | 0=>simp at hj;subst hj;simpa [Addr.add] using h0
 | 1=>simp at hj;subst hj;simpa [Addr.add] using h1
 | j+2=>simp at hj
def PcV(b gx:Nat)(x:PtV)(L:List (Int×Int))(j:Nat)(v:Value)(w:World):Prop :=
 match j with
 | 0=>v=.pointer (some ⟨gx,5,none⟩)
 | 1=>v=.slice x.pa x.pn x.pc
 | 2=>v=.pointer (some ⟨b,0,none⟩)
 | 3=>∃ k:Nat,k < 6∧v=.int .i64 (k:Int)
 | 4=>∃ k:Int,v=.int .i64 k∧0≤k∧k < 512
 | 5=>v=.pointer (some ⟨b,0,none⟩)
 | 6=>∃ k:Int,v=.int .i64 k∧0≤k∧k≤255
 | 7=>∃ p q:Int,v=.agg #[.int .i64 p,.int .i64 q]∧PcOk p q
 | 8=>∃(g:Nat) (p q:Int),v=.slice (some ⟨g,0,none⟩) 1 1∧gx < g∧g < w.heap.size∧obk x.pa≠some g∧w.cell? ⟨g,0,none⟩=some (.int .i64 p)∧w.cell? ⟨g,1,none⟩=some (.int .i64 q)∧PcOk p q
 | 9=>∃(A':Option Addr) (c':Nat) (q:Int×Int),v=.slice A' (x.pn+1:Nat) c'∧OwnV 59 2 w (gx+1) A' (x.pn+1) c' ((L++[q]).flatMap prc)∧PcOk q.1 q.2
 | 10=>v=.pointer (some ⟨gx,5,none⟩)
 | 11=>∃(A':Option Addr) (c':Nat) (q:Int×Int),PrtS gx { x with pa:=A',pn:=x.pn+1,pc:=c' } (L++[q]) w∧PcOk q.1 q.2
 | _=>True
structure PcW(B b:Nat)(A:Option Addr)(m c:Nat)(f:Nat→Int)(wr:World)(gx:Nat)(x:PtV)(L:List (Int×Int))(live:Nat→Bool)(w:World):Prop where
 rn:Rnd B b A m c f wr w
 lt:gx < w.heap.size
 ve:live 11=false→Vec w gx 11 (pvf x)
 pr:live 9=false→OwnV 59 2 w (gx+1) x.pa x.pn x.pc (L.flatMap prc)
section
variable {b gx:Nat} {x:PtV} {L:List (Int×Int)} {w w':World}
theorem PcV.keep(hs:w.heap.size≤w'.heap.size)(j:Nat)(v:Value)(hk:∀ k,(j=11∧gx≤k)∨(j=9∧gx < k)∨(j=8∧gx < k∧obk x.pa≠some k)→k < w.heap.size→w'.heap[k]? = w.heap[k]?)(h:PcV b gx x L j v w):PcV b gx x L j v w':=by
 unfold PcV at h ⊢;split at h
 case h_9 =>
  obtain⟨g,p,q,h1,h2,h3,h4,h5,h6,h7⟩:=h;have hb:=hk g (.inr (.inr ⟨rfl,h2,h4⟩)) h3;exact⟨g,p,q,h1,h2,by omega,h4,(World.cell?_of_block hb).trans h5,(World.cell?_of_block hb).trans h6,h7⟩
 case h_10 =>
  obtain⟨A',c',q,h1,h2,h7⟩:=h;exact⟨A',c',q,h1,h2.keep fun k h3 h4=>hk k (.inr (.inl ⟨rfl,by omega⟩)) h4,h7⟩
 case h_12 =>
  obtain⟨A',c',q,h1,h7⟩:=h;exact⟨A',c',q,h1.keep hs fun k h3 h4=>hk k (.inl ⟨rfl,h3⟩) h4,h7⟩
 all_goals exact h
theorem PcV.gb(hb:b < gx)(hg:w.grownBy w' (some b))(j:Nat)(v:Value)(h:PcV b gx x L j v w):PcV b gx x L j v w' :=
 h.keep hg.size j v fun k hk hl=>hg.block k hl fun e=>by
  injection e with e
  rcases hk with hk | hk | hk <;> omega
theorem PcV.bel(hb:Below w.heap.size w w')(j:Nat)(v:Value)(h:PcV b gx x L j v w):PcV b gx x L j v w':=h.keep hb.size j v fun k _ hl=>hb.block k hl
variable {B m c:Nat} {A:Option Addr} {f:Nat→Int} {wr:World} {live:Nat→Bool}
theorem PcW.upd(h:PcW B b A m c f wr gx x L live w)(i:Nat):PcW B b A m c f wr gx x L (Rgs.upd live i) w:=⟨h.rn,h.lt,fun e=>h.ve (Rgs.upd_off e),fun e=>h.pr (Rgs.upd_off e)⟩
theorem PcW.next(h:PcW B b A m c f wr gx x L live w)(hb:b < gx){at_:Nat}(T:TapeW w' B b A m c f at_)(hg:w.grownBy w' (some b)):PcW B b A m c f wr gx x L live w' :=
 ⟨h.rn.next T hg,Nat.lt_of_lt_of_le h.lt hg.size,fun e=>(h.ve e).keep (hg.block gx h.lt fun e=>by injection e with e;omega) hg.size,fun e=>(h.pr e).gb hg (by omega)⟩
theorem PcW.bel(h:PcW B b A m c f wr gx x L live w)(hb:b < wr.heap.size)(hw:Below w.heap.size w w'):PcW B b A m c f wr gx x L live w' :=
 ⟨h.rn.bel hb hw,Nat.lt_of_lt_of_le h.lt hw.size,fun e=>(h.ve e).on hw,fun e=>(h.pr e).below rfl hw⟩
end
theorem pcl_one(l:List PtV):∀ u∈l.flatMap pcl,u.oneCell'=true:=by
 intro u hu;obtain⟨x,_,hx⟩:=List.mem_flatMap.1 hu;simp[pcl] at hx;rcases hx with rfl | rfl | rfl | rfl | rfl | rfl | rfl | rfl | rfl | rfl | rfl <;> rfl
theorem cc_one(l:List ChV):∀ u∈l.flatMap cc,u.oneCell'=true:=by
 intro u hu;obtain⟨x,_,hx⟩:=List.mem_flatMap.1 hu;simp[cc] at hx;rcases hx with rfl | rfl | rfl | rfl | rfl | rfl <;> rfl
theorem tcl_one(l:List TbV):∀ u∈l.flatMap tcl,u.oneCell'=true:=by
 intro u hu;obtain⟨x,_,hx⟩:=List.mem_flatMap.1 hu;simp[tcl] at hx;subst hx;rfl
def HealP(x:PtV):Prop:=(0≤x.h0∧x.h0≤2)∧(0≤x.h1∧x.h1≤2)∧(0≤x.h2∧x.h2≤2)∧(0≤x.h3∧x.h3≤2)∧(0≤x.h4∧x.h4≤2)
def nmL(i:Nat):ByteArray:=({ data:=#[112] }:ByteArray)++Utf8.encode (97+i)
def PtsN(P:List PtV):Prop:=∀ i x,P[i]? = some x→x.name=nmL i∧x.bud=0∧x.per=0∧HealP x∧(1≤x.pn∧x.pn≤2)∧x.pn≤x.pc
theorem PtsN.more{P:List PtV}(h:PtsN P){x:PtV}{n:Nat}(hn:P.length=n)(hx:x.name=nmL n∧x.bud=0∧x.per=0∧HealP x∧(1≤x.pn∧x.pn≤2)∧x.pn≤x.pc):PtsN (P++[x]):=fun i y hy=>by
 rcases Nat.lt_or_ge i P.length with h1 | h1
 ·rw[List.getElem?_append_left h1] at hy
  exact h i y hy
 ·rw[List.getElem?_append_right h1] at hy
  have h2:=(List.getElem?_eq_some_iff.1 hy).1
  simp at h2
  obtain rfl:i=n:=by omega
  rw[show i - P.length=0 by omega] at hy
  simp at hy
  subst hy
  exact hx
theorem PtsN.bud{P:List PtV}(h:PtsN P):∀ x∈P,x.bud≤0:=fun x hx=>by
 obtain⟨i,hi⟩:=List.getElem?_of_mem hx
 rw[(h i x hi).2.1]
 exact Int.le_refl _
theorem PrtS.heal{gx:Nat}{x:PtV}{L:List (Int×Int)}{w:World}(h:PrtS gx x L w){j:Nat}(hj:j < 5)(z:Int)(hz:0≤z∧z≤2)(hl:HealP x):∃ x':PtV,x'.pa=x.pa∧x'.pn=x.pn∧x'.pc=x.pc∧x'.per=x.per∧x'.bud=x.bud∧x'.name=x.name∧HealP x'∧PrtS gx x' L (w.setCell ⟨gx,6+j,none⟩ (.int .i64 z)):=by
 have hpr:OwnV 59 2 (w.setCell ⟨gx,6+j,none⟩ (.int .i64 z)) (gx+1) x.pa x.pn x.pc (L.flatMap prc):=h.pr.other _ _ fun g e e2=>by have:=(h.pr.obk_ge (b:=g) (by rw[e];rfl)).1;have e2:g=gx:=e2;omega
 have hv:=h.ve.set (6+j) (.int .i64 z);rcases(by omega:j=0∨j=1∨j=2∨j=3∨j=4) with rfl | rfl | rfl | rfl | rfl
 ·exact⟨{ x with h0:=z },rfl,rfl,rfl,rfl,rfl,rfl,⟨hz,hl.2.1,hl.2.2.1,hl.2.2.2.1,hl.2.2.2.2⟩,hv.congr fun i hi=>by rcases(by omega:i=0∨i=1∨i=2∨i=3∨i=4∨i=5∨i=6∨i=7∨i=8∨i=9∨i=10) with rfl | rfl | rfl | rfl | rfl | rfl | rfl | rfl | rfl | rfl | rfl <;> rfl,hpr⟩
 ·exact⟨{ x with h1:=z },rfl,rfl,rfl,rfl,rfl,rfl,⟨hl.1,hz,hl.2.2.1,hl.2.2.2.1,hl.2.2.2.2⟩,hv.congr fun i hi=>by rcases(by omega:i=0∨i=1∨i=2∨i=3∨i=4∨i=5∨i=6∨i=7∨i=8∨i=9∨i=10) with rfl | rfl | rfl | rfl | rfl | rfl | rfl | rfl | rfl | rfl | rfl <;> rfl,hpr⟩
 ·exact⟨{ x with h2:=z },rfl,rfl,rfl,rfl,rfl,rfl,⟨hl.1,hl.2.1,hz,hl.2.2.2.1,hl.2.2.2.2⟩,hv.congr fun i hi=>by rcases(by omega:i=0∨i=1∨i=2∨i=3∨i=4∨i=5∨i=6∨i=7∨i=8∨i=9∨i=10) with rfl | rfl | rfl | rfl | rfl | rfl | rfl | rfl | rfl | rfl | rfl <;> rfl,hpr⟩
 ·exact⟨{ x with h3:=z },rfl,rfl,rfl,rfl,rfl,rfl,⟨hl.1,hl.2.1,hl.2.2.1,hz,hl.2.2.2.2⟩,hv.congr fun i hi=>by rcases(by omega:i=0∨i=1∨i=2∨i=3∨i=4∨i=5∨i=6∨i=7∨i=8∨i=9∨i=10) with rfl | rfl | rfl | rfl | rfl | rfl | rfl | rfl | rfl | rfl | rfl <;> rfl,hpr⟩
 exact⟨{ x with h4:=z },rfl,rfl,rfl,rfl,rfl,rfl,⟨hl.1,hl.2.1,hl.2.2.1,hl.2.2.2.1,hz⟩,hv.congr fun i hi=>by rcases(by omega:i=0∨i=1∨i=2∨i=3∨i=4∨i=5∨i=6∨i=7∨i=8∨i=9∨i=10) with rfl | rfl | rfl | rfl | rfl | rfl | rfl | rfl | rfl | rfl | rfl <;> rfl,hpr⟩
def zch:ChV:=⟨0,0,false,0,0,0⟩
def ccf(x:ChV)(j:Nat):Value:=(cc x)[j]?.getD (.bool false)
def ChOk(n:Nat)(x:ChV):Prop:=0≤x.from_∧x.from_ < n∧0≤x.to_∧x.to_ < n∧0≤x.max∧x.max≤4294967295
def ChNew0(n:Nat)(x:ChV):Prop:=ChOk n x∧x.late=0∧x.from_≠x.to_∧x.cap=0
def ChNew(n:Nat)(x:ChV):Prop:=ChOk n x∧x.late=0∧x.from_≠x.to_∧if x.queue=true then 1≤x.cap∧x.cap≤8 else x.cap=0
theorem round_ne{f k n:Nat}(hf:f < n)(hk:k < n - 1):(f+1+k) % n≠f:=by
 rcases Nat.lt_or_ge (f+1+k) n with h | h
 ·rw[Nat.mod_eq_of_lt h];omega
 rw[Nat.mod_eq_sub_mod h,Nat.mod_eq_of_lt (by omega)];omega
def ChqV(b base n fr:Nat)(j:Nat)(v:Value)(w:World):Prop :=
 match j with
 | 0=>v=.int .i64 (fr:Int)
 | 1=>v=.int .i64 (fr:Int)
 | 2=>v=.int .i64 ((fr:Int)+1)
 | 3=>v=.pointer (some ⟨b,0,none⟩)
 | 4=>v=.int .i64 (n:Int)
 | 5=>v=.int .i64 ((n:Int) - 1)
 | 6=>∃ k:Nat,k < n - 1∧v=.int .i64 (k:Int)
 | 7=>∃ k:Nat,k < n - 1∧v=.int .i64 ((fr:Int)+1+(k:Int))
 | 8=>v=.int .i64 (n:Int)
 | 9=>∃ k:Nat,(k < n∧k≠fr)∧v=.int .i64 (k:Int)
 | 10=>v=.pointer (some ⟨b,0,none⟩)
 | 11=>∃ k:Int,v=.int .i64 k
 | 12=>∃ q:Bool,v=.bool q
 | 13=>∃ g:Nat,v=.slice (some ⟨g,0,none⟩) 3 3∧base≤g∧g < w.heap.size∧∀ k,k < 3→∃ z:Int,w.cell? ⟨g,k,none⟩=some (.int .u32 z)∧0≤z∧z≤4294967295
 | 14=>v=.pointer (some ⟨b,0,none⟩)
 | 15=>∃ k:Nat,k < 3∧v=.int .i64 (k:Int)
 | 16=>∃(g k:Nat) (z:Int),v=.pointer (some ⟨g,k,none⟩)∧base≤g∧g < w.heap.size∧w.cell? ⟨g,k,none⟩=some (.int .u32 z)∧(0≤z∧z≤4294967295)∧∃ z,w.cell? ⟨g,0,none⟩=some (.int .u32 z)
 | 17=>∃ z:Int,v=.int .u32 z∧0≤z∧z≤4294967295
 | 18=>∃ x:ChV,ChNew0 n x∧v=cv x
 | _=>True
structure ChqW(B b:Nat)(A:Option Addr)(m c:Nat)(f:Nat→Int)(wr:World)(n:Nat)(live:Nat→Bool)(a:Act)(w:World):Prop where
 rn:Rnd B b A m c f wr w
 un:live 19=true→live 20=false→∃ g,a.eval (.tmp 11)=.pointer (some ⟨g,0,none⟩)∧wr.heap.size≤g∧Vec w g 6 (ccf zch)
 at_:live 20=true→∃ g x,a.eval (.tmp 11)=.pointer (some ⟨g,0,none⟩)∧wr.heap.size≤g∧ChNew0 n x∧Vec w g 6 (ccf x)
section
variable {b base n fr:Nat} {w w':World}
theorem ChqV.keep(hs:w.heap.size≤w'.heap.size)(j:Nat)(v:Value)(hk:∀ k,base≤k→(∃ z,w.cell? ⟨k,0,none⟩=some (.int .u32 z))→k < w.heap.size→w'.heap[k]? = w.heap[k]?)(h:ChqV b base n fr j v w):ChqV b base n fr j v w':=by
 unfold ChqV at h ⊢;split at h
 case h_14 =>
  obtain⟨g,h1,h2,h3,h4⟩:=h;exact⟨g,h1,h2,by omega,fun k hk3=>by
   obtain⟨z,hz,hz1⟩:=h4 k hk3;obtain⟨z0,hz0,_⟩:=h4 0 (by omega);exact⟨z,(World.cell?_of_block (hk g h2 ⟨z0,hz0⟩ h3)).trans hz,hz1⟩⟩
 case h_17 =>
  obtain⟨g,k,z,h1,h2,h3,h4,hzz,z0,h5⟩:=h;exact⟨g,k,z,h1,h2,by omega,(World.cell?_of_block (hk g h2 ⟨z0,h5⟩ h3)).trans h4,hzz,z0,(World.cell?_of_block (hk g h2 ⟨z0,h5⟩ h3)).trans h5⟩
 all_goals exact h
theorem ChqV.gb(hb:b < base)(hg:w.grownBy w' (some b))(j:Nat)(v:Value)(h:ChqV b base n fr j v w):ChqV b base n fr j v w' :=
 h.keep hg.size j v fun k hk _ hl=>hg.block k hl fun e=>by injection e with e;omega
theorem ChqV.bel(hb:Below w.heap.size w w')(j:Nat)(v:Value)(h:ChqV b base n fr j v w):ChqV b base n fr j v w':=h.keep hb.size j v fun k _ _ hl=>hb.block k hl
variable {B m c:Nat} {A:Option Addr} {f:Nat→Int} {wr:World} {live:Nat→Bool} {a:Act}
theorem ChqW.upd(h:ChqW B b A m c f wr n live a w)(i:Nat)(d:Tmp)(v:Value)(hi:i≠19∧i≠20:=by decide)(hd:d≠11:=by decide):ChqW B b A m c f wr n (Rgs.upd live i) (a.put (some d) v) w:=by
 have e1:Rgs.upd live i 19=live 19:=by unfold Rgs.upd;simp[Ne.symm hi.1]
 have e2:Rgs.upd live i 20=live 20:=by unfold Rgs.upd;simp[Ne.symm hi.2]
 refine⟨h.rn,fun h1 h2=>?_,fun h1=>?_⟩
 ·rw[Reg.eval_other _ _ _ _ hd];exact h.un (e1▸h1) (e2▸h2)
 rw[Reg.eval_other _ _ _ _ hd];exact h.at_ (e2▸h1)
theorem ChqW.next(h:ChqW B b A m c f wr n live a w)(hb:b < wr.heap.size){at_:Nat}(T:TapeW w' B b A m c f at_)(hg:w.grownBy w' (some b)):ChqW B b A m c f wr n live a w':=by
 refine⟨h.rn.next T hg,fun h1 h2=>?_,fun h1=>?_⟩
 ·obtain⟨g,e,hle,hv⟩:=h.un h1 h2;exact⟨g,e,hle,hv.keep (hg.block g hv.lt fun e=>by injection e with e;omega) hg.size⟩
 obtain⟨g,x,e,hle,ho,hv⟩:=h.at_ h1;exact⟨g,x,e,hle,ho,hv.keep (hg.block g hv.lt fun e=>by injection e with e;omega) hg.size⟩
theorem ChqW.bel(h:ChqW B b A m c f wr n live a w)(hb:b < wr.heap.size)(hw:Below w.heap.size w w'):ChqW B b A m c f wr n live a w':=by
 refine⟨h.rn.bel hb hw,fun h1 h2=>?_,fun h1=>?_⟩
 ·obtain⟨g,e,hle,hv⟩:=h.un h1 h2;exact⟨g,e,hle,hv.on hw⟩
 obtain⟨g,x,e,hle,ho,hv⟩:=h.at_ h1;exact⟨g,x,e,hle,ho,hv.on hw⟩
end
def TbQ(Q:Nat)(x:TbV):Prop:=∀ y∈x.x::x.k.flat,0≤y.p∧y.p < (Q:Int)
structure TbGood(BB:Nat)(A1 A2 A3:Option Addr)(Q:Nat)(x:TbV)(w:World):Prop where
 q:TbQ Q x
 at_:TbAt w w.heap.size x∧Frame x
 ap:∀ k,obk x.A=some k→BB≤k∧k < w.heap.size∧obk A1≠some k∧obk A2≠some k∧obk A3≠some k
theorem TbGood.only{BB Q:Nat}{A1 A2 A3:Option Addr}{x:TbV}{w w':World}{p:Nat→Prop}(h:TbGood BB A1 A2 A3 Q x w)(ho:Only p w w')(hp:∀ k,p k→k < BB∨obk A3=some k):TbGood BB A1 A2 A3 Q x w' :=
 ⟨h.q,⟨h.at_.1.only ho fun k hk e=>by
   have h1:=h.ap k hk
   rcases hp k e with e | e
   ·omega
   ·exact h1.2.2.2.2 e,h.at_.2⟩,fun k hk=>⟨(h.ap k hk).1,Nat.lt_of_lt_of_le (h.ap k hk).2.1 ho.size,(h.ap k hk).2.2⟩⟩
section
variable (B b:Nat) (A:Option Addr) (m c:Nat) (f:Nat→Int) (w0:World) (gr gc BB:Nat) (A1 A2 A3:Option Addr) (n1 n2 n3 c1 c2 c3:Nat) (P:List PtV) (C:List ChV) (T:List TbV)
def TbqV(j:Nat)(v:Value)(w:World):Prop :=
 match j with
 | 0=>v=.pointer (some ⟨gc,2,none⟩)
 | 1=>v=.slice A3 n3 c3
 | 2=>v=.pointer (some ⟨b,0,none⟩)
 | 3=>v=.int .i64 (n1:Int)
 | 4=>∃ x:TbV,v=.slice x.A x.n x.c∧TbGood BB A1 A2 A3 n1 x w
 | 5=>∃(g:Nat) (x:TbV),v=.slice (some ⟨g,0,none⟩) 1 1∧BB≤g∧g < w.heap.size∧obk A3≠some g∧w.cell? ⟨g,0,none⟩=some (.slice x.A x.n x.c)∧TbGood BB A1 A2 A3 n1 x w
 | 6=>w.cell? ⟨gc,2,none⟩=some (.slice A3 n3 c3)→∃(A':Option Addr) (c':Nat) (w1:World) (x:TbV),v=.slice A' (n3+1:Nat) c'∧CfgS B b A m c f w0 gr gc BB A1 A2 A3 n1 n2 n3 c1 c2 c3 P C T w1∧TbGood BB A1 A2 A3 n1 x w1∧Grew A3 A' w1 w∧OwnV 64 1 w BB A' (n3+1) c' ((T++[x]).flatMap tcl)
 | 7=>v=.pointer (some ⟨gc,2,none⟩)
 | 8=>∃(A':Option Addr) (c':Nat) (x:TbV),CfgS B b A m c f w0 gr gc BB A1 A2 A' n1 n2 (n3+1) c1 c2 c' P C (T++[x]) w∧TbQ n1 x
 | _=>True
structure TbqW(live:Nat→Bool)(w:World):Prop where
 cf:live 6=false→CfgS B b A m c f w0 gr gc BB A1 A2 A3 n1 n2 n3 c1 c2 c3 P C T w
 ce:live 8=false→w.cell? ⟨gc,2,none⟩=some (.slice A3 n3 c3)∧w.frozen? ⟨gc,2,none⟩=false∧BB≤w.heap.size
end
section
variable {B b:Nat} {A:Option Addr} {m c:Nat} {f:Nat→Int} {w0:World} {gr gc BB:Nat} {A1 A2 A3:Option Addr} {n1 n2 n3 c1 c2 c3:Nat} {P:List PtV} {C:List ChV} {T:List TbV} {w w':World} {live:Nat→Bool}
theorem TbqW.upd(h:TbqW B b A m c f w0 gr gc BB A1 A2 A3 n1 n2 n3 c1 c2 c3 P C T live w)(i:Nat):TbqW B b A m c f w0 gr gc BB A1 A2 A3 n1 n2 n3 c1 c2 c3 P C T (Rgs.upd live i) w:=⟨fun e=>h.cf (Rgs.upd_off e),fun e=>h.ce (Rgs.upd_off e)⟩
theorem TbqV.keep{p:Nat→Prop}(j:Nat)(v:Value)(ho:Only p w w')(hp:∀ k,p k→k < BB∨obk A3=some k)(h6:j≠6)(h8:j≠8)(h:TbqV B b A m c f w0 gr gc BB A1 A2 A3 n1 n2 n3 c1 c2 c3 P C T j v w):TbqV B b A m c f w0 gr gc BB A1 A2 A3 n1 n2 n3 c1 c2 c3 P C T j v w':=by
 unfold TbqV at h ⊢;split at h
 case h_5 =>
  obtain⟨x,h1,h2⟩:=h;exact⟨x,h1,h2.only ho hp⟩
 case h_6 =>
  obtain⟨g,x,h1,h2,h3,h4,h5,h6⟩:=h;refine⟨g,x,h1,h2,Nat.lt_of_lt_of_le h3 ho.size,h4,(World.cell?_of_block (ho.block g h3 fun e=>?_)).trans h5,h6.only ho hp⟩;rcases hp g e with e | e
  ·omega
  exact h4 e
 case h_7=>exact absurd rfl h6
 case h_9=>exact absurd rfl h8
 all_goals exact h
theorem Only.grew{A0 A':Option Addr}(h:Grew A0 A' w w'):Only (fun k=>obk A0=some k) w w':=⟨h.gb.os,h.gb.tape,h.gb.output,h.gb.size,fun k hk hn=>h.gb.block k hk fun e=>hn e.symm⟩
end
theorem box1_rd{w:World}{g:Nat}{v0:Value}(h0:w.cell? ⟨g,0,none⟩=some v0):RdV w w.heap.size (some ⟨g,0,none⟩) [v0]:=fun _=>by
 refine⟨_,rfl,World.block_lt_of_cell? w _ h0,fun j v hj=>?_⟩
 match j with
 | 0=>simp at hj;subst hj;simpa [Addr.add] using h0
 | j+1=>simp at hj
def CfgZ(Rt:Nat→List PtV→List ChV→List TbV→World→Prop)(B b:Nat)(A:Option Addr)(m c:Nat)(f:Nat→Int)(w:World)(e:Ending)(w':World):Prop :=
 ∃(A1 A2 A3:Option Addr) (n1 n2 n3 c1 c2 c3:Nat) (P:List PtV) (C:List ChV) (T:List TbV) (at':Nat),e=.returned (.agg #[.slice A1 n1 c1,.slice A2 n2 c2,.slice A3 n3 c3])∧CfW w' w'.heap.size A1 A2 n1 n2 P C∧1≤n1∧n1≤4∧n2≤3∧n1≤c1∧n2≤c2 ∧
  (∀ x∈C,ChOk n1 x)∧RdB tcl w' w'.heap.size A3 n3 T∧(∀ t∈T,TbAt w' w'.heap.size t∧Frame t)∧1≤n3∧n3≤2∧n3≤c3∧TapeW w' B b A m c f at'∧w.grownBy w' (some b) ∧
  (∀ x∈P,In64 x.per)∧(∀ x∈C,∀ t∈T,chLate (wordsL (rowF t)) x=false)∧(∀ k x,P[k]? = some x→∀ t∈T,ptShort (wordsL (rowF t)) k x=false) ∧
  OwnB 57 11 pcl w' w.heap.size A1 n1 c1 P∧OwnB 63 6 cc w' w.heap.size A2 n2 c2 C∧(∀ k,obk A1=some k→obk A2≠some k) ∧
  (∀ k,obk A3=some k→w.heap.size≤k)∧(∀ t∈T,∀ k,obk t.A=some k→w.heap.size≤k)∧Rt n1 P C T w'
def pO(b:Nat)(A1 A2:Option Addr)(k:Nat):Prop:=k=b∨obk A1=some k∨obk A2=some k
section
variable {B b:Nat} {A:Option Addr} {m c:Nat} {f:Nat→Int} {w:World} {gr gc BB:Nat} {A1 A2 A3:Option Addr} {n1 n2 n3 c1 c2 c3:Nat} {P P':List PtV} {C C':List ChV} {T:List TbV} {wr w':World}
theorem CfgS.asked(h:CfgS B b A m c f w gr gc BB A1 A2 A3 n1 n2 n3 c1 c2 c3 P C T wr)(hB:CfgB b w gr gc BB):Asked (pO b A1 A2) wr A3 n3 P T:=by
 have h1:=hB.br;have h3:=hB.rc;have h4:=hB.cB;refine⟨h.tb.rdb,fun t ht=>(h.tt t ht).1,fun x hx=>(h.pt x hx).1,fun k hk e=>?_,fun t ht k hk e=>?_,fun x hx k hk e=>?_⟩
 ·rcases e with e | e | e
  ·have:=(h.tb.own.obk_ge hk).1;omega
  ·exact h.d13 k e hk
  exact h.d23 k e hk
 ·have h5:=(h.tt t ht).2 k hk;rcases e with e | e | e
  ·omega
  ·exact h5.2.2.1 e
  exact h5.2.2.2.1 e
 have h5:=(h.pt x hx).2 k hk;rcases e with e | e | e
 ·omega
 ·exact h5.2.2.1 e
 exact h5.2.2.2.1 e
theorem ChOk.of{n:Nat}(hm:C'.map coreC=C.map coreC)(hc:∀ x∈C,ChOk n x):∀ x∈C',ChOk n x:=fun x hx=>by
 have h1:coreC x∈C.map coreC:=by rw[← hm];exact List.mem_map_of_mem hx
 obtain⟨y,hy,e⟩:=List.mem_map.1 h1
 have h2:=hc y hy
 have e5:y.max=x.max:=(show (coreC y).max=(coreC x).max from congrArg ChV.max e)
 unfold coreC at e
 injection e with e1 e2 e3
 unfold ChOk at h2 ⊢
 rw[← e1,← e2,← e5]
 exact h2
theorem CfgS.fin(h:CfgS B b A m c f w gr gc BB A1 A2 A3 n1 n2 n3 c1 c2 c3 P C T wr)(hB:CfgB b w gr gc BB)(q1:1≤n1)(q2:n1≤4)(q3:n2≤3)(q4:1≤n3)(q5:n3≤2)(hc:∀ x∈C,ChOk n1 x)
  (hP:RdB pcl w' w'.heap.size A1 n1 P') (hC:RdB cc w' w'.heap.size A2 n2 C') (hm:C'.map coreC=C.map coreC) {at':Nat} (hT:TapeW w' B b A m c f at') (ho:Only (pO b A1 A2) wr w') (hi6:∀ x∈P',In64 x.per) (hlo:∀ x∈C',∀ t∈T,chLate (wordsL (rowF t)) x=false) (hso:∀ k x,P'[k]? = some x→∀ t∈T,ptShort (wordsL (rowF t)) k x=false)
  (hPo:OwnB 57 11 pcl w' BB A1 n1 c1 P') (hCo:OwnB 63 6 cc w' BB A2 n2 c2 C') {Rt:Nat→List PtV→List ChV→List TbV→World→Prop} (hrt:Rt n1 P' C' T (set3 w' gr (.slice A1 n1 c1) (.slice A2 n2 c2) (.slice A3 n3 c3))) :
  Vec w' gr 3 (box3 (.slice none 0 0) (.slice none 0 0) (.slice none 0 0))∧CfgZ Rt B b A m c f w (.returned (.agg #[.slice A1 n1 c1,.slice A2 n2 c2,.slice A3 n3 c3])) (set3 w' gr (.slice A1 n1 c1) (.slice A2 n2 c2) (.slice A3 n3 c3)):=by
 have h1:=hB.br
 have h2:=hB.wr
 have h3:=hB.rc
 have h4:=hB.cB
 have hgs:=h.gb.size
 have np:∀ k,pO b A1 A2 k→k=b∨BB≤k:=fun k e=>by
  rcases e with e | e | e
  ·exact .inl e
  ·exact .inr (h.pp.own.obk_ge e).1
  ·exact .inr (h.ch.own.obk_ge e).1
 have hgr:¬ pO b A1 A2 gr:=fun e=>by have:=np gr e;omega
 have hv:=h.rs.keep (ho.block gr h.rs.lt hgr) ho.size
 have hA:=(h.asked hB).only ho
 have hs:(set3 w' gr (.slice A1 n1 c1) (.slice A2 n2 c2) (.slice A3 n3 c3)).heap.size=w'.heap.size:=by simp[set3]
 have hset:∀ k,k≠gr→(set3 w' gr (.slice A1 n1 c1) (.slice A2 n2 c2) (.slice A3 n3 c3)).heap[k]? = w'.heap[k]?:=fun k hk=>by
  unfold set3
  rw[Below.heap_setCell _ _ _ _ hk,Below.heap_setCell _ _ _ _ hk,Below.heap_setCell _ _ _ _ hk]
 have hon:Only (fun k=>k=gr) w' (set3 w' gr (.slice A1 n1 c1) (.slice A2 n2 c2) (.slice A3 n3 c3)):=⟨rfl,rfl,rfl,by rw[hs];exact Nat.le_refl _,fun k _ hk=>hset k hk⟩
 have n1':∀ k,obk A1=some k→k≠gr:=fun k e=>by have:=(h.pp.own.obk_ge e).1;omega
 have n2':∀ k,obk A2=some k→k≠gr:=fun k e=>by have:=(h.ch.own.obk_ge e).1;omega
 have hbl:Below gr w' (set3 w' gr (.slice A1 n1 c1) (.slice A2 n2 c2) (.slice A3 n3 c3)):=⟨rfl,rfl,rfl,by rw[hs];exact Nat.le_refl _,fun k hk=>hset k (by omega)⟩
 refine⟨hv,A1,A2,A3,n1,n2,n3,c1,c2,c3,P',C',T,at',rfl,⟨⟨hP.len,?_⟩,⟨hC.len,?_⟩⟩,q1,q2,q3,h.pp.cap,h.ch.cap,ChOk.of hm hc,⟨hA.t.len,?_⟩,fun t ht=>⟨?_,(hA.tt t ht).2⟩,q4,q5,h.tb.cap,hT.below hbl h1,?_,hi6,hlo,hso,?_,?_,h.d12,fun k e=>by have:=(h.tb.own.obk_ge e).1;omega,fun t ht k e=>by have:=((h.tt t ht).2 k e).1;omega,hrt⟩
 ·exact hon.rdv (B:=0) hP.rd fun k e=>n1' k e
 ·exact hon.rdv (B:=0) hC.rd fun k e=>n2' k e
 ·exact hon.rdv (B:=0) hA.t.rd fun k e=>by have:=(h.tb.own.obk_ge e).1;omega
 ·exact(hA.tt t ht).1.only hon fun k e=>by have:=((h.tt t ht).2 k e).1;omega
 ·refine⟨ho.os.trans h.gb.os,ho.tape.trans h.gb.tape,ho.output.trans h.gb.output,by rw[hs];exact Nat.le_trans hgs ho.size,fun k hk hne=>?_⟩
  have hkb:k≠b:=fun e=>hne (by rw[e])
  exact((hset k (by omega)).trans (ho.block k (by omega) fun e=>by have:=np k e;omega)).trans (h.gb.block k hk hne)
 ·exact((((hPo.other ⟨gr,0,none⟩ _ fun g e e2=>by have:=(h.pp.own.obk_ge (b:=g) (by rw[e];rfl)).1;have e2:g=gr:=e2;omega).other ⟨gr,1,none⟩ _ fun g e e2=>by have:=(h.pp.own.obk_ge (b:=g) (by rw[e];rfl)).1;have e2:g=gr:=e2;omega).other ⟨gr,2,none⟩ _ fun g e e2=>by have:=(h.pp.own.obk_ge (b:=g) (by rw[e];rfl)).1;have e2:g=gr:=e2;omega)).weak (by omega)
 ·exact((((hCo.other ⟨gr,0,none⟩ _ fun g e e2=>by have:=(h.ch.own.obk_ge (b:=g) (by rw[e];rfl)).1;have e2:g=gr:=e2;omega).other ⟨gr,1,none⟩ _ fun g e e2=>by have:=(h.ch.own.obk_ge (b:=g) (by rw[e];rfl)).1;have e2:g=gr:=e2;omega).other ⟨gr,2,none⟩ _ fun g e e2=>by have:=(h.ch.own.obk_ge (b:=g) (by rw[e];rfl)).1;have e2:g=gr:=e2;omega)).weak (by omega)
end
def prcF(q:Int×Int):Bool:=(decide (0≤q.1) && decide (q.1 < 512)) && (decide (0≤q.2) && decide (q.2≤255))
def hlF(h:Int):Bool:=decide (0≤h) && decide (h≤2)
def pbF(b p:Int):Bool:=(decide (b=0) && decide (p=0)) || ((decide (1≤b) && decide (b≤4096)) && (decide (b≤p) && decide (p≤4096)))
def hv5(x:PtV)(j:Nat):Int:=if j=0 then x.h0 else if j=1 then x.h1 else if j=2 then x.h2 else if j=3 then x.h3 else x.h4
def partF(x:PtV)(L:List (Int×Int)):Bool:=(decide (1≤x.pn) && decide (x.pn≤3)) && (L.all prcF && ((List.range 5).all (fun j=>hlF (hv5 x j)) && pbF x.bud x.per))
theorem partF_few{x:PtV}{L:List (Int×Int)}(h:¬ (1≤x.pn∧x.pn≤3)):partF x L=false:=by
 unfold partF;rcases(by omega:x.pn < 1∨3 < x.pn) with h1 | h1
 ·rw[decide_eq_false (show ¬ 1≤x.pn by omega)];rfl
 rw[decide_eq_false (show ¬ x.pn≤3 by omega)];simp
theorem partF_proc{x:PtV}{L:List (Int×Int)}{i:Nat}{q:Int×Int}(hq:L[i]? = some q)(h:prcF q=false):partF x L=false:=by
 unfold partF;have:L.all prcF=false:=by
  rw[List.all_eq_false];exact⟨q,List.mem_of_getElem? hq,by rw[h];simp⟩
 rw[this];simp
theorem partF_heal{x:PtV}{L:List (Int×Int)}{j:Nat}(hj:j < 5)(h:hlF (hv5 x j)=false):partF x L=false:=by
 unfold partF;have:(List.range 5).all (fun j=>hlF (hv5 x j))=false:=by
  rw[List.all_eq_false];exact⟨j,List.mem_range.2 hj,by rw[h];simp⟩
 rw[this];simp
theorem partF_end{x:PtV}{L:List (Int×Int)}(h1:1≤x.pn)(h3:x.pn≤3)(hp:∀(j:Nat) (q:Int×Int),L[j]? = some q→prcF q=true)(hh:∀ j,j < 5→hlF (hv5 x j)=true):partF x L=pbF x.bud x.per:=by
 unfold partF;have e1:L.all prcF=true:=by
  rw[List.all_eq_true];intro q hq;obtain⟨i,hi⟩:=List.getElem?_of_mem hq;exact hp i q hi
 have e2:(List.range 5).all (fun j=>hlF (hv5 x j))=true:=by
  rw[List.all_eq_true];exact fun j hj=>hh j (List.mem_range.1 hj)
 rw[e1,e2,decide_eq_true h1,decide_eq_true h3];rfl
theorem xpart_any(x : PtV)(L : List (Int × Int))(w : World)(h : RdB prc w w.heap.size x.pa x.pn L): Calls Tryz.prog 71 #[pv x] w (Ans (.bool (partF x L)) w) := by
  have FEW := hid fun h => partF_few (x := x) (L := L) h
  have PRB := hid fun i q (hq : L[i]? = some q) h => partF_proc (x := x) hq h
  have HLB := hid fun j (hj : j < 5) h => partF_heal (x := x) (L := L) hj h
  have END := hid (fun h1 h3 hp hh => partF_end h1 h3 hp hh : 1 ≤ x.pn → x.pn ≤ 3 → (∀ (j : Nat) (q : Int × Int), L[j]? = some q → prcF q = true) → (∀ j, j < 5 → hlF (hv5 x j) = true) → partF x L = pbF x.bud x.per)
  generalize partF x L = v at FEW PRB HLB END ⊢
  obtain ⟨nm, bu, pe, sc, st, pa, pn, pc, h0, h1, h2, h3, h4⟩ := x
  dsimp only at h FEW PRB HLB END
  go_enter Tryz.func71, Tryz.ntmps71
  by_cases hp1 : pn < 1
  · have hp1' : (pn : Int) < 1 := by omega
    have HV := hid (FEW.out (by omega))
    clear FEW PRB HLB END h
    go_wp2_with fail
    go_ret
    exact Ans.mk (by rw [HV.out]; rfl) (bl1 _ _)
  · by_cases hp3 : 3 < pn
    · have hp3' : (3 : Int) < (pn : Int) := by omega
      have hp1' : ¬ (pn : Int) < 1 := by omega
      have HV := hid (FEW.out (by omega))
      clear FEW PRB HLB END h
      go_wp2_with fail
      go_ret
      exact Ans.mk (by rw [HV.out]; rfl) (bl1 _ _)
    · have hp3' : ¬ (3 : Int) < (pn : Int) := by omega
      have hp1' : ¬ (pn : Int) < 1 := by omega
      clear FEW
      go_wp2_with fail
      have hb0 := bl1 w (.cells #[.string nm, .int .i64 bu, .int .i64 pe, .bool sc, .bool st, .slice pa pn pc, .int .i64 h0, .int .i64 h1, .int .i64 h2, .int .i64 h3, .int .i64 h4] 57)
      have n1 : (w.alloc (.cells #[.string nm, .int .i64 bu, .int .i64 pe, .bool sc, .bool st, .slice pa pn pc, .int .i64 h0, .int .i64 h1, .int .i64 h2, .int .i64 h3, .int .i64 h4] 57)).cell? ⟨w.heap.size, 1, none⟩ = some (.int .i64 bu) := World.cell?_alloc_mark _ _ _ _ _
      have n2 : (w.alloc (.cells #[.string nm, .int .i64 bu, .int .i64 pe, .bool sc, .bool st, .slice pa pn pc, .int .i64 h0, .int .i64 h1, .int .i64 h2, .int .i64 h3, .int .i64 h4] 57)).cell? ⟨w.heap.size, 2, none⟩ = some (.int .i64 pe) := World.cell?_alloc_mark _ _ _ _ _
      have n6 : (w.alloc (.cells #[.string nm, .int .i64 bu, .int .i64 pe, .bool sc, .bool st, .slice pa pn pc, .int .i64 h0, .int .i64 h1, .int .i64 h2, .int .i64 h3, .int .i64 h4] 57)).cell? ⟨w.heap.size, 6, none⟩ = some (.int .i64 h0) := World.cell?_alloc_mark _ _ _ _ _
      have n7 : (w.alloc (.cells #[.string nm, .int .i64 bu, .int .i64 pe, .bool sc, .bool st, .slice pa pn pc, .int .i64 h0, .int .i64 h1, .int .i64 h2, .int .i64 h3, .int .i64 h4] 57)).cell? ⟨w.heap.size, 7, none⟩ = some (.int .i64 h1) := World.cell?_alloc_mark _ _ _ _ _
      have n8 : (w.alloc (.cells #[.string nm, .int .i64 bu, .int .i64 pe, .bool sc, .bool st, .slice pa pn pc, .int .i64 h0, .int .i64 h1, .int .i64 h2, .int .i64 h3, .int .i64 h4] 57)).cell? ⟨w.heap.size, 8, none⟩ = some (.int .i64 h2) := World.cell?_alloc_mark _ _ _ _ _
      have n9 : (w.alloc (.cells #[.string nm, .int .i64 bu, .int .i64 pe, .bool sc, .bool st, .slice pa pn pc, .int .i64 h0, .int .i64 h1, .int .i64 h2, .int .i64 h3, .int .i64 h4] 57)).cell? ⟨w.heap.size, 9, none⟩ = some (.int .i64 h3) := World.cell?_alloc_mark _ _ _ _ _
      have n10 : (w.alloc (.cells #[.string nm, .int .i64 bu, .int .i64 pe, .bool sc, .bool st, .slice pa pn pc, .int .i64 h0, .int .i64 h1, .int .i64 h2, .int .i64 h3, .int .i64 h4] 57)).cell? ⟨w.heap.size, 10, none⟩ = some (.int .i64 h4) := World.cell?_alloc_mark _ _ _ _ _
      have hgs : w.heap.size < (w.alloc (.cells #[.string nm, .int .i64 bu, .int .i64 pe, .bool sc, .bool st, .slice pa pn pc, .int .i64 h0, .int .i64 h1, .int .i64 h2, .int .i64 h3, .int .i64 h4] 57)).heap.size := by simp
      have hw1 := h.on hb0
      generalize w.alloc (.cells #[.string nm, .int .i64 bu, .int .i64 pe, .bool sc, .bool st, .slice pa pn pc, .int .i64 h0, .int .i64 h1, .int .i64 h2, .int .i64 h3, .int .i64 h4] 57) = W at n1 n2 n6 n7 n8 n9 n10 hb0 hgs hw1 ⊢
      obtain ⟨g, hg⟩ : ∃ g, g = w.heap.size := ⟨_, rfl⟩
      rw [← hg] at n1 n2 n6 n7 n8 n9 n10 hgs ⊢
      have HG := hid hg
      clear hg h
      have HN := hid fun W' (hb : Below W.heap.size W W') (o : Nat) v (hv : W.cell? ⟨g, o, none⟩ = some v) => (hb.cell (p := ⟨g, o, none⟩) hgs).trans hv
      have N1 := hid n1
      have N2 := hid n2
      have N6 := hid n6
      have N7 := hid n7
      have N8 := hid n8
      have N9 := hid n9
      have N10 := hid n10
      clear n1 n2 n6 n7 n8 n9 n10
      go_loopw [4, 20] (fun _ s wr => ∃ i : Nat, i ≤ pn ∧ s = .int .i64 i ∧ (∀ (j : Nat) (q : Int × Int), j < i → L[j]? = some q → prcF q = true) ∧ Below W.heap.size W wr) (fun _ s _ => pn - (intOf s).toNat)
      case atStart => exact ⟨0, by omega, rfl, fun j q hj => by omega, Below.refl _ _⟩
      case round =>
        obtain ⟨i, hi, rfl, hok, hb⟩ := hrel
        have HOK := hid hok
        clear hok
        by_cases hlt : i < pn
        · obtain ⟨ad, q, rfl, had, hx, c0, ck⟩ := (hw1.on hb).at_ prc_len (by omega) hlt
          have d0 := c0 _ rfl
          have d1 := ck 1 _ (by omega) rfl
          obtain ⟨e, p⟩ := q
          dsimp only at d0 d1
          have HNX : Hid (prcF (e, p) = true → ∀ (j : Nat) (q : Int × Int), j < i + 1 → L[j]? = some q → prcF q = true) := hid fun h j q hj hq => by
            rcases Nat.lt_or_ge j i with h5 | h5
            · exact HOK.out j q h5 hq
            · obtain rfl : j = i := by omega
              rw [hx] at hq
              injection hq with hq
              rw [← hq]
              exact h
          have HBD := hid (PRB.out i _ hx)
          have HB := hid (hb.trans ((bl1 wr (.cells #[.int .i64 e, .int .i64 p] 59)).mono hb.size))
          have HPF : Hid (prcF (e, p) = ((decide (0 ≤ e) && decide (e < 512)) && (decide (0 ≤ p) && decide (p ≤ 255)))) := hid rfl
          clear c0 ck hx HOK PRB HLB END
          rcases (by omega : e < 0 ∨ 512 ≤ e ∨ (0 ≤ e ∧ e < 512 ∧ p < 0) ∨ (0 ≤ e ∧ e < 512 ∧ 255 < p) ∨ (0 ≤ e ∧ e < 512 ∧ 0 ≤ p ∧ p ≤ 255)) with h5 | h5 | h5 | h5 | h5
          all_goals
            first
            | (have k5 : prcF (e, p) = true := by
                rw [HPF.out, decide_eq_true (show 0 ≤ e by omega), decide_eq_true (show e < 512 by omega), decide_eq_true (show 0 ≤ p by omega), decide_eq_true (show p ≤ 255 by omega)]
                rfl)
            | (have k5 : prcF (e, p) = false := by
                rw [HPF.out]
                first
                | rw [decide_eq_false (show ¬ 0 ≤ e by omega)]; rfl
                | rw [decide_eq_false (show ¬ e < 512 by omega)]; simp
                | rw [decide_eq_false (show ¬ 0 ≤ p by omega)]; simp
                | rw [decide_eq_false (show ¬ p ≤ 255 by omega)]; simp)
            have K5 := hid k5
            clear k5
            try first
              | have i1 : e < 0 := by omega
              | have i1 : ¬ e < 0 := by omega
            try first
              | have i2 : 512 ≤ e := by omega
              | have i2 : ¬ 512 ≤ e := by omega
            try first
              | have i3 : p < 0 := by omega
              | have i3 : ¬ p < 0 := by omega
            try first
              | have i4 : 255 < p := by omega
              | have i4 : ¬ 255 < p := by omega
            clear h5
            go_wp2_with fail
            first
            | (go_ret; exact Ans.mk (by rw [HBD.out K5.out]; rfl) (hb0.trans (HB.out.mono hb0.size)))
            | (go_roundw
               case rel => exact ⟨i + 1, by omega, by go_num, HNX.out K5.out, HB.out⟩
               case measure => simp [intOf]; omega)
        · have hge : pn ≤ i := by omega
          have HPO : Hid (∀ (j : Nat) (q : Int × Int), L[j]? = some q → prcF q = true) := hid fun j q hq => HOK.out j q (by have := (List.getElem?_eq_some_iff.1 hq).1; have := hw1.len; omega) hq
          have HEND := hid (END.out (by omega) (by omega) HPO.out)
          have n1 := HN.out wr hb 1 _ N1.out
          have n2 := HN.out wr hb 2 _ N2.out
          have n6 := HN.out wr hb 6 _ N6.out
          have n7 := HN.out wr hb 7 _ N7.out
          have n8 := HN.out wr hb 8 _ N8.out
          have n9 := HN.out wr hb 9 _ N9.out
          have n10 := HN.out wr hb 10 _ N10.out
          clear END HPO HOK PRB
          go_wp2_with fail
          clear n6 n7 n8 n9 n10
          have HX : Hid (∀ j : Nat, hv5 ⟨nm, bu, pe, sc, st, pa, pn, pc, h0, h1, h2, h3, h4⟩ j = if j = 0 then h0 else if j = 1 then h1 else if j = 2 then h2 else if j = 3 then h3 else h4) := hid fun j => rfl
          generalize hv5 ⟨nm, bu, pe, sc, st, pa, pn, pc, h0, h1, h2, h3, h4⟩ = hf at HX HEND HLB
          go_loopw [6, 45] (fun _ s wx => ∃ j : Nat, j ≤ 5 ∧ s = .int .i64 j ∧ (∀ k, k < j → hlF (hf k) = true) ∧ Below W.heap.size W wx) (fun _ s _ => 5 - (intOf s).toNat)
          case atStart => exact ⟨0, by omega, rfl, fun k hk => by omega, hb⟩
          case round =>
            obtain ⟨j, hj, rfl, hok, hb⟩ := hrel
            have HOK := hid hok
            clear hok
            by_cases hj5 : j < 5
            · have hz : ∀ W, (Instr.index 55 (.agg #[Value.int .i64 h0, .int .i64 h1, .int .i64 h2, .int .i64 h3, .int .i64 h4]) (.int .i64 (j : Int))).run Tryz.prog W = .ok (.int .i64 (hf j)) W := by
                rcases (by omega : j = 0 ∨ j = 1 ∨ j = 2 ∨ j = 3 ∨ j = 4) with rfl | rfl | rfl | rfl | rfl
                · rw [show hf 0 = h0 from HX.out 0]
                  exact fun W => by simp [Instr.index, go_sem]
                · rw [show hf 1 = h1 from HX.out 1]
                  exact fun W => by simp [Instr.index, go_sem]
                · rw [show hf 2 = h2 from HX.out 2]
                  exact fun W => by simp [Instr.index, go_sem]
                · rw [show hf 3 = h3 from HX.out 3]
                  exact fun W => by simp [Instr.index, go_sem]
                · rw [show hf 4 = h4 from HX.out 4]
                  exact fun W => by simp [Instr.index, go_sem]
              have hj5' : (j : Int) < 5 := by omega
              have HNX : Hid (hlF (hf j) = true → ∀ k, k < j + 1 → hlF (hf k) = true) := hid fun h k hk => by
                rcases Nat.lt_or_ge k j with h5 | h5
                · exact HOK.out k h5
                · obtain rfl : k = j := by omega
                  exact h
              have HBD := hid (HLB.out j hj5)
              clear HX HLB HEND HOK
              generalize hf j = z at hz HNX HBD
              have HPF : Hid (hlF z = (decide (0 ≤ z) && decide (z ≤ 2))) := hid rfl
              rcases (by omega : z < 0 ∨ 2 < z ∨ (0 ≤ z ∧ z ≤ 2)) with h5 | h5 | h5
              all_goals
                first
                | (have k5 : hlF z = true := by
                    rw [HPF.out, decide_eq_true (show 0 ≤ z by omega), decide_eq_true (show z ≤ 2 by omega)]
                    rfl)
                | (have k5 : hlF z = false := by
                    rw [HPF.out]
                    first
                    | rw [decide_eq_false (show ¬ 0 ≤ z by omega)]; rfl
                    | rw [decide_eq_false (show ¬ z ≤ 2 by omega)]; simp)
                have K5 := hid k5
                clear k5
                try first
                  | have i1 : z < 0 := by omega
                  | have i1 : ¬ z < 0 := by omega
                try first
                  | have i2 : 2 < z := by omega
                  | have i2 : ¬ 2 < z := by omega
                clear h5
                go_wp2_with fail
                first
                | (go_ret; exact Ans.mk (by rw [HBD.out K5.out]; rfl) (hb0.trans (hb.mono hb0.size)))
                | (go_roundw
                   case rel => exact ⟨j + 1, by omega, by go_num, HNX.out K5.out, hb⟩
                   case measure => simp [intOf]; omega)
            · have hj5' : ¬ (j : Int) < 5 := by omega
              have n1 := HN.out wr hb 1 _ N1.out
              have n2 := HN.out wr hb 2 _ N2.out
              have HV := hid (HEND.out fun k hk => HOK.out k (by omega))
              have HPF : Hid (pbF bu pe = ((decide (bu = 0) && decide (pe = 0)) || ((decide (1 ≤ bu) && decide (bu ≤ 4096)) && (decide (bu ≤ pe) && decide (pe ≤ 4096))))) := hid rfl
              clear HEND HOK HX HLB
              rcases (by omega : (bu = 0 ∧ pe = 0) ∨ (bu = 0 ∧ pe ≠ 0) ∨ bu < 0 ∨ (4096 < bu) ∨ (1 ≤ bu ∧ bu ≤ 4096 ∧ pe < bu) ∨ (1 ≤ bu ∧ bu ≤ 4096 ∧ bu ≤ pe ∧ 4096 < pe) ∨ (1 ≤ bu ∧ bu ≤ 4096 ∧ bu ≤ pe ∧ pe ≤ 4096)) with h5 | h5 | h5 | h5 | h5 | h5 | h5
              all_goals
                first
                | (have k5 : v = true := by
                    rw [HV.out, HPF.out]
                    first
                    | rw [decide_eq_true (show bu = 0 by omega), decide_eq_true (show pe = 0 by omega)]; rfl
                    | rw [decide_eq_true (show 1 ≤ bu by omega), decide_eq_true (show bu ≤ 4096 by omega), decide_eq_true (show bu ≤ pe by omega), decide_eq_true (show pe ≤ 4096 by omega)]; simp)
                | (have k5 : v = false := by
                    rw [HV.out, HPF.out]
                    first
                    | rw [decide_eq_false (show ¬ 1 ≤ bu by omega), decide_eq_false (show ¬ pe = 0 by omega)]; simp
                    | rw [decide_eq_false (show ¬ bu = 0 by omega)]
                      first
                      | rw [decide_eq_false (show ¬ 1 ≤ bu by omega)]; rfl
                      | rw [decide_eq_false (show ¬ bu ≤ 4096 by omega)]; simp
                      | rw [decide_eq_false (show ¬ bu ≤ pe by omega)]; simp
                      | rw [decide_eq_false (show ¬ pe ≤ 4096 by omega)]; simp)
                have K5 := hid k5
                clear k5
                first
                  | have i1 : (bu == 0) = true := beq_iff_eq.2 (by omega)
                  | have i1 : (bu == 0) = false := beq_eq_false_iff_ne.2 (by omega)
                try first
                  | have i2 : (pe == 0) = true := beq_iff_eq.2 (by omega)
                  | have i2 : (pe == 0) = false := beq_eq_false_iff_ne.2 (by omega)
                first
                  | have i3 : 1 ≤ bu := by omega
                  | have i3 : ¬ 1 ≤ bu := by omega
                first
                  | have i4 : bu ≤ 4096 := by omega
                  | have i4 : ¬ bu ≤ 4096 := by omega
                try first
                  | have i5 : bu ≤ pe := by omega
                  | have i5 : ¬ bu ≤ pe := by omega
                try first
                  | have i6 : pe ≤ 4096 := by omega
                  | have i6 : ¬ pe ≤ 4096 := by omega
                clear h5
                go_wp2_with fail
                go_ret
                exact Ans.mk (by rw [K5.out]; rfl) (hb0.trans (hb.mono hb0.size))
theorem bs_eq(a b:ByteArray):(a == b)=decide (a=b):=by
 show (a.data == b.data)=_;by_cases h:a=b
 ·subst h;simp
 rw[decide_eq_false h];have:a.data≠b.data:=fun e=>h (ByteArray.ext e);simpa using this
theorem bs_eq_of{a b:ByteArray}{q:Bool}(h:decide (a=b)=q):(a.toList == b.toList)=q:=by rw[← beq_toListBytes,bs_eq,h]
abbrev Pq:=PtV×List (Int×Int)
def pcq(x:Pq):List Value:=pcl x.1
theorem pcq_len(x:Pq):(pcq x).length=11:=rfl
structure PtAx(w:World)(B:Nat)(x:Pq):Prop where
 per:In64 x.1.per
 name:x.1.name.size≤140737488351232
 procs:RdB prc w B x.1.pa x.1.pn x.2
theorem PtAx.on{w w':World}{x:Pq}(h:PtAx w w.heap.size x)(hb:Below w.heap.size w w'):PtAx w' w'.heap.size x:=⟨h.per,h.name,h.procs.on hb⟩
theorem pcq_map(P:List Pq):P.flatMap pcq=(P.map Prod.fst).flatMap pcl:=by
 rw[List.flatMap_map];rfl
theorem RdB.fsts{w:World}{B n:Nat}{A:Option Addr}{P:List Pq}(h:RdB pcq w B A n P):RdB pcl w B A n (P.map Prod.fst):=⟨by rw[List.length_map];exact h.len,by rw[← pcq_map];exact h.rd⟩
structure NdT where
 A:Option Addr
 n:Nat
 c:Nat
 l:List Nd
def tcn(t:NdT):List Value:=[.slice t.A t.n t.c]
theorem tcn_len(t:NdT):(tcn t).length=1:=rfl
structure NdAt(w:World)(B:Nat)(t:NdT):Prop where
 rd:RdN w B t.A t.n t.l
 cap:t.n≤t.c
 few:t.n≤140737488351232
theorem NdAt.on{w w':World}{t:NdT}(h:NdAt w w.heap.size t)(hb:Below w.heap.size w w'):NdAt w' w'.heap.size t:=⟨h.rd.on hb,h.cap,h.few⟩
noncomputable def ofF(l : List Nd): Int × List Rn :=
  if h : wholeB l = true then
    (ofz l.length ((Classical.choose (Classical.choose_spec (whole_tree h))).dep + 1) (one (Classical.choose (whole_tree h)) (Classical.choose (Classical.choose_spec (whole_tree h))).lvs),
     tidy (one (Classical.choose (whole_tree h)) (Classical.choose (Classical.choose_spec (whole_tree h))).lvs))
  else (rn l.length, [])
theorem ofF_whole{l:List Nd}(h:wholeB l=true):∃(x:Nd) (k:F),(F.cons x k .nil).ok∧l=x::k.flat∧ofF l=(ofz l.length (k.dep+1) (one x k.lvs),tidy (one x k.lvs)):=by
 have e:=Classical.choose_spec (Classical.choose_spec (whole_tree h));exact⟨_,_,e.1,e.2,by unfold ofF;rw[dif_pos h]⟩
theorem ofF_none{l:List Nd}(h:¬ wholeB l=true):ofF l=(rn l.length,[]):=by unfold ofF;rw[dif_neg h]
theorem ofF_ok{l:List Nd}(hz:(ofF l).1=0):ticks (ofF l).2≤4096∧(ofF l).2.length≤96:=by
 by_cases h:wholeB l=true
 ·obtain⟨x,k,hok,hl,e⟩:=ofF_whole h;rw[e] at hz ⊢;dsimp only at hz ⊢;obtain⟨_,_,h3,h4⟩:=ofz_ok hz;exact⟨by rw[ticks_tidy];exact h3,h4⟩
 rw[ofF_none h] at hz;dsimp only at hz;unfold rn at hz;split at hz <;> omega
theorem ofg_none{z:Int}(hz:¬ z=0){w w':World}{e:Ending}(h:Ans (.tuple #[.slice none 0 0,.int .i64 z]) w e w'):OfG z [] w e w' :=
 ⟨none,0,0,h.1,Nat.le_refl _,fun h0=>absurd h0 hz,h.2⟩
theorem ofg_some{z:Int}{T:List Rn}(hz:¬ z=0){w w':World}{e:Ending}(h:Ans (.tuple #[.slice none 0 0,.int .i64 z]) w e w'):OfG z T w e w' :=
 ⟨none,0,0,h.1,Nat.le_refl _,fun h0=>absurd h0 hz,h.2⟩
theorem ofF_big{l:List Nd}(h:128 < l.length):(ofF l).1=3:=by
 by_cases hw:wholeB l=true
 ·obtain⟨x,k,_,_,e⟩:=ofF_whole hw;rw[e];show ofz l.length _ _=3;have e3:rt l.length (k.dep+1) (ticks (one x k.lvs))=3:=by unfold rt;rw[if_pos h]
  unfold ofz;rw[e3,if_neg (by decide)]
 rw[ofF_none hw];exact if_pos h
theorem rofx_any(t:NdT)(w:World)(h:NdAt w w.heap.size t):Calls Tryz.prog 40 #[.slice t.A t.n t.c] w (OfG (ofF t.l).1 (ofF t.l).2 w):=by
 have hl:=h.rd.len;by_cases hb:128 < t.n
 ·have hn:¬ (3:Int)=0:=by decide
  rw[ofF_big (by rw[hl];exact hb)];refine(rof_wrong t.A t.n t.c w _ ?_ hn).mono fun _ _ k=>ofg_some hn k;have h1':(128:Int) < (t.n:Int):=by omega
  clear h hl hb;go_enter Tryz.func65,Tryz.ntmps65;go_wp2_with fail;go_ret;exact Ans.mk rfl (Below.refl _ _)
 by_cases hw:wholeB t.l=true
 ·obtain⟨x,k,hok,he,e⟩:=ofF_whole hw;rw[e];have hr:=h.rd;rw[he] at hr hl ⊢;rw[hl];exact rof_any t.A t.n t.c x k w hr h.cap hok (by omega)
 have hw':wholeB t.l=false:=by simpa using hw
 rw[ofF_none hw,hl];have hn:¬ rn t.n=0:=by unfold rn;split <;> omega
 exact(rof_wrong t.A t.n t.c w _ (rright_none t.A t.n t.c t.l w h.rd h.cap (by omega) hw') hn).mono fun _ _ k=>ofg_none hn k
def ptW(P:List Pq)(i:Nat)(x:Pq):Int:=if (!nameF x.1.name || (P.take i).any (fun y=>decide (y.1.name=x.1.name)))=true then 15 else if partF x.1 x.2=true then 0 else 16
def ptE(P:List Pq)(i:Nat):Int:=match P[i]? with | some x=>ptW P i x | none=>0
def chE(C:List ChV)(n:Nat)(i:Nat):Int:=match C[i]? with | some x=>if chanF x n=true then 0 else 17 | none=>0
noncomputable def tbW(P:List Pq)(C:List ChV)(l:List Nd):Int :=
 if (ofF l).1=0 then (if (ofF l).2.any (fun r=>decide ((P.length:Int)≤r.p))=true then 16 else holdsF (wordsL (ofF l).2) (P.map Prod.fst) C) else (ofF l).1
noncomputable def tbE(P:List Pq)(C:List ChV)(T:List NdT)(i:Nat):Int:=match T[i]? with | some t=>tbW P C t.l | none=>0
def firstF(f:Nat→Int)(n:Nat):Option Nat:=(List.range n).find? (fun i=>f i != 0)
theorem firstF_some{f:Nat→Int}{n i:Nat}(hi:i < n)(h0:∀ j,j < i→f j=0)(h:f i≠0):firstF f n=some i:=by
 unfold firstF;rw[List.find?_eq_some_iff_append];refine⟨by simpa using h,List.range i,(List.range' (i+1) (n - i - 1)),?_,fun a ha=>?_⟩
 ·apply List.ext_getElem?;intro k;rw[List.getElem?_append];simp only[List.length_range];split
  ·rename_i hk;rw[List.getElem?_range (by omega),List.getElem?_range hk]
  rename_i hk;by_cases hkn:k < n
  ·rw[List.getElem?_range hkn,List.getElem?_cons];split
   ·congr 1;omega
   rw[List.getElem?_range' (by omega)];congr 1;omega
  rw[List.getElem?_eq_none (by simp;omega),List.getElem?_eq_none (by simp;omega)]
 have:=h0 a (List.mem_range.1 ha);simp[this]
theorem firstF_none{f:Nat→Int}{n:Nat}(h0:∀ j,j < n→f j=0):firstF f n=none:=by
 unfold firstF;rw[List.find?_eq_none];intro a ha;simp[h0 a (List.mem_range.1 ha)]
def sizesB(P:List Pq)(C:List ChV)(T:List NdT):Prop:=1≤P.length∧P.length≤6∧C.length≤8∧1≤T.length∧T.length≤3
instance (P:List Pq) (C:List ChV) (T:List NdT):Decidable (sizesB P C T):=by unfold sizesB;infer_instance
noncomputable def whereF(P:List Pq)(C:List ChV)(T:List NdT):Int×Int :=
 if sizesB P C T then
  match firstF (ptE P) P.length with
  | some i=>(ptE P i,(i:Int))
  | none=>match firstF (chE C P.length) C.length with
   | some i=>(chE C P.length i,(i:Int))
   | none=>match firstF (tbE P C T) T.length with
    | some i=>(tbE P C T i,(i:Int))
    | none=>(0,-1)
 else (3,0)
section
variable {P:List Pq} {C:List ChV} {T:List NdT}
theorem whereF_big(h:¬ sizesB P C T):whereF P C T=(3,0):=by unfold whereF;rw[if_neg h]
theorem whereF_part(h:sizesB P C T){i:Nat}(hi:i < P.length)(h0:∀ j,j < i→ptE P j=0)(hz:ptE P i≠0):whereF P C T=(ptE P i,(i:Int)):=by
 unfold whereF;rw[if_pos h,firstF_some hi h0 hz]
theorem whereF_chan(h:sizesB P C T)(hp:∀ j,j < P.length→ptE P j=0){i:Nat}(hi:i < C.length)(h0:∀ j,j < i→chE C P.length j=0)(hz:chE C P.length i≠0):whereF P C T=(chE C P.length i,(i:Int)):=by
 unfold whereF;rw[if_pos h,firstF_none hp,firstF_some hi h0 hz]
theorem whereF_tab(h:sizesB P C T)(hp:∀ j,j < P.length→ptE P j=0)(hc:∀ j,j < C.length→chE C P.length j=0){i:Nat}(hi:i < T.length)(h0:∀ j,j < i→tbE P C T j=0)(hz:tbE P C T i≠0):whereF P C T=(tbE P C T i,(i:Int)):=by
 unfold whereF;rw[if_pos h,firstF_none hp,firstF_none hc,firstF_some hi h0 hz]
theorem whereF_ok(h:sizesB P C T)(hp:∀ j,j < P.length→ptE P j=0)(hc:∀ j,j < C.length→chE C P.length j=0)(ht:∀ j,j < T.length→tbE P C T j=0):whereF P C T=(0,-1):=by
 unfold whereF;rw[if_pos h,firstF_none hp,firstF_none hc,firstF_none ht]
theorem ptE_name{i:Nat}{x:Pq}(hx:P[i]? = some x)(h:nameF x.1.name=false):ptE P i=15:=by
 unfold ptE;rw[hx];show ptW P i x=15;unfold ptW;rw[h];rfl
theorem ptE_twice{i k:Nat}{x y:Pq}(hx:P[i]? = some x)(hk:k < i)(hy:P[k]? = some y)(h:(decide (y.1.name=x.1.name))=true):ptE P i=15:=by
 unfold ptE;rw[hx];show ptW P i x=15;unfold ptW;have:(P.take i).any (fun y=>decide (y.1.name=x.1.name))=true:=List.any_eq_true.2 ⟨y,List.mem_of_getElem? (i:=k) (by rw[List.getElem?_take];simp[hk,hy]),h⟩;rw[this,Bool.or_true];rfl
theorem ptE_end{i:Nat}{x:Pq}(hx:P[i]? = some x)(hn:nameF x.1.name=true)(h:∀ k y,k < i→P[k]? = some y→(decide (y.1.name=x.1.name))=false):ptE P i=if partF x.1 x.2=true then 0 else 16:=by
 unfold ptE;rw[hx];show ptW P i x=_;unfold ptW;have:(P.take i).any (fun y=>decide (y.1.name=x.1.name))=false:=by
  rw[List.any_eq_false];intro y hy;obtain⟨k,hk⟩:=List.getElem?_of_mem hy;rw[List.getElem?_take] at hk;split at hk
  ·rename_i hki;rw[h k y hki hk];decide
  cases hk
 rw[this,hn];rfl
theorem chE_at{n i:Nat}{x:ChV}(hx:C[i]? = some x):chE C n i=if chanF x n=true then 0 else 17:=by unfold chE;rw[hx]
theorem tbE_at{i:Nat}{t:NdT}(hx:T[i]? = some t):tbE P C T i=tbW P C t.l:=by unfold tbE;rw[hx]
end
theorem lt_more{p:Nat→Prop}{i:Nat}(h:∀ j,j < i→p j)(hi:p i):∀ j,j < i+1→p j:=fun j hj=>by
 rcases Nat.lt_or_ge j i with h1 | h1
 ·exact h j h1
 ·obtain rfl:j=i:=by omega
  exact hi
theorem xwhere_any(A1 A2 A3:Option Addr)(n1 n2 n3 c1 c2 c3:Nat)(P:List Pq)(C:List ChV)(T:List NdT)(w:World)(hP:RdB pcq w w.heap.size A1 n1 P)(hC:RdB cc w w.heap.size A2 n2 C)(hT:RdB tcn w w.heap.size A3 n3 T)
  (hp:∀ x∈P,PtAx w w.heap.size x) (ht:∀ t∈T,NdAt w w.heap.size t) :
  Calls Tryz.prog 44 #[.agg #[.slice A1 n1 c1,.slice A2 n2 c2,.slice A3 n3 c3]] w (Ans (.tuple #[.int .i64 (whereF P C T).1,.int .i64 (whereF P C T).2]) w):=by
 have hb0:=bl1 w (.cells #[.slice A1 n1 c1,.slice A2 n2 c2,.slice A3 n3 c3] 26)
 have e1:=hP.len
 have e2:=hC.len
 have e3:=hT.len
 have WBIG:Hid (¬ (1≤n1∧n1≤6∧n2≤8∧1≤n3∧n3≤3)→whereF P C T=(3,0)):=hid fun h=>whereF_big (by unfold sizesB;rw[e1,e2,e3];exact h)
 have WP:Hid ((1≤n1∧n1≤6∧n2≤8∧1≤n3∧n3≤3)→∀ i,i < n1→(∀ j,j < i→ptE P j=0)→ptE P i≠0→whereF P C T=(ptE P i,(i:Int))):=hid fun h i hi=>whereF_part (by unfold sizesB;rw[e1,e2,e3];exact h) (by omega)
 have WC:Hid ((1≤n1∧n1≤6∧n2≤8∧1≤n3∧n3≤3)→(∀ j,j < n1→ptE P j=0)→∀ i,i < n2→(∀ j,j < i→chE C n1 j=0)→chE C n1 i≠0→whereF P C T=(chE C n1 i,(i:Int))):=hid fun h hp i hi=>by
  have:=whereF_chan (T:=T) (by unfold sizesB;rw[e1,e2,e3];exact h) (by rw[e1];exact hp) (i:=i) (by omega)
  rw[e1] at this
  exact this
 have WT:Hid ((1≤n1∧n1≤6∧n2≤8∧1≤n3∧n3≤3)→(∀ j,j < n1→ptE P j=0)→(∀ j,j < n2→chE C n1 j=0)→∀ i,i < n3→(∀ j,j < i→tbE P C T j=0)→tbE P C T i≠0→whereF P C T=(tbE P C T i,(i:Int))):=hid fun h hp hc i hi =>
  whereF_tab (by unfold sizesB;rw[e1,e2,e3];exact h) (by rw[e1];exact hp) (by rw[e1,e2];exact hc) (i:=i) (by omega)
 have WOK:Hid ((1≤n1∧n1≤6∧n2≤8∧1≤n3∧n3≤3)→(∀ j,j < n1→ptE P j=0)→(∀ j,j < n2→chE C n1 j=0)→(∀ j,j < n3→tbE P C T j=0)→whereF P C T=(0,-1)):=hid fun h hp hc ht =>
  whereF_ok (by unfold sizesB;rw[e1,e2,e3];exact h) (by rw[e1];exact hp) (by rw[e1,e2];exact hc) (by rw[e3];exact ht)
 have HTW:Hid (∀ l,tbW P C l=if (ofF l).1=0 then (if (ofF l).2.any (fun r=>decide ((n1:Int)≤r.p))=true then 16 else holdsF (wordsL (ofF l).2) (P.map Prod.fst) C) else (ofF l).1):=hid fun l=>by unfold tbW;rw[e1]
 have HPM:Hid (∀ x∈P.map Prod.fst,In64 x.per):=hid fun x hx=>by
  obtain⟨y,hy,rfl⟩:=List.mem_map.1 hx
  exact(hp y hy).per
 generalize whereF P C T=V at WBIG WP WC WT WOK ⊢
 obtain⟨V1,V2⟩:=V
 dsimp only at WBIG WP WC WT WOK ⊢
 have HP:=hid hP
 have HC:=hid hC
 have HT:=hid hT
 have HPT:=hid hp
 have HTT:=hid ht
 have m0:(w.alloc (.cells #[.slice A1 n1 c1,.slice A2 n2 c2,.slice A3 n3 c3] 26)).cell? ⟨w.heap.size,0,none⟩=some (.slice A1 n1 c1):=World.cell?_alloc_mark _ _ _ _ _
 have m1:(w.alloc (.cells #[.slice A1 n1 c1,.slice A2 n2 c2,.slice A3 n3 c3] 26)).cell? ⟨w.heap.size,1,none⟩=some (.slice A2 n2 c2):=World.cell?_alloc_mark _ _ _ _ _
 have m2:(w.alloc (.cells #[.slice A1 n1 c1,.slice A2 n2 c2,.slice A3 n3 c3] 26)).cell? ⟨w.heap.size,2,none⟩=some (.slice A3 n3 c3):=World.cell?_alloc_mark _ _ _ _ _
 have hgs:w.heap.size < (w.alloc (.cells #[.slice A1 n1 c1,.slice A2 n2 c2,.slice A3 n3 c3] 26)).heap.size:=by simp
 clear hP hC hT hp ht e1 e2 e3
 go_enter Tryz.func44,Tryz.ntmps44
 by_cases qz:1≤n1∧n1≤6∧n2≤8∧1≤n3∧n3≤3
 case neg =>
  have hv:=WBIG.out qz
  injection hv with hv1 hv2
  subst hv1 hv2
  clear WBIG WP WC WT WOK HTW
  by_cases q1:(n1:Int) < 1
  ·have d1:=decide_eq_true q1
   go_wp2_with fail
   go_ret2
   exact Ans.mk rfl (bl1 _ _)
  have d1:=decide_eq_false q1
  by_cases q2:(6:Int) < (n1:Int)
  ·have d2:=decide_eq_true q2
   go_wp2_with fail
   go_ret2
   exact Ans.mk rfl (bl1 _ _)
  have d2:=decide_eq_false q2
  by_cases q3:(8:Int) < (n2:Int)
  ·have d3:=decide_eq_true q3
   go_wp2_with fail
   go_ret2
   exact Ans.mk rfl (bl1 _ _)
  have d3:=decide_eq_false q3
  by_cases q4:(n3:Int) < 1
  ·have d4:=decide_eq_true q4
   go_wp2_with fail
   go_ret2
   exact Ans.mk rfl (bl1 _ _)
  have d4:=decide_eq_false q4
  by_cases q5:(3:Int) < (n3:Int)
  ·have d5:=decide_eq_true q5
   go_wp2_with fail
   go_ret2
   exact Ans.mk rfl (bl1 _ _)
  omega
 have WP:=hid (WP.out qz)
 have WC:=hid (WC.out qz)
 have WT:=hid (WT.out qz)
 have WOK:=hid (WOK.out qz)
 clear WBIG
 have r0:1≤n1:=qz.1
 have r1:n1≤6:=qz.2.1
 have r2:n2≤8:=qz.2.2.1
 have r3:n3≤3:=qz.2.2.2.2
 have d1:decide ((n1:Int) < 1)=false:=decide_eq_false (by omega)
 have d2:decide ((6:Int) < (n1:Int))=false:=decide_eq_false (by omega)
 have d3:decide ((8:Int) < (n2:Int))=false:=decide_eq_false (by omega)
 have d4:decide ((n3:Int) < 1)=false:=decide_eq_false (by omega)
 have d5:decide ((3:Int) < (n3:Int))=false:=decide_eq_false (by omega)
 clear qz
 go_wp2_with fail
 clear d1 d2 d3 d4 d5
 generalize w.alloc (.cells #[.slice A1 n1 c1,.slice A2 n2 c2,.slice A3 n3 c3] 26)=W at hb0 m0 m1 m2 hgs ⊢
 obtain⟨g,hg⟩:∃ g,g=w.heap.size:=⟨_,rfl⟩
 rw[← hg] at m0 m1 m2 hgs ⊢
 have HG:=hid hg
 have HB0:=hid hb0
 have HM:=hid fun(W':World) (hb:Below W.heap.size W W') (o:Nat) (v:Value) (hv:W.cell? ⟨g,o,none⟩=some v)=>(hb.cell (p:=⟨g,o,none⟩) hgs).trans hv
 have HW:=hid fun(W':World) (hb:Below W.heap.size W W')=>hb0.trans (hb.mono hb0.size)
 have M0:=hid m0
 have M1:=hid m1
 have M2:=hid m2
 clear hg m0 m1 m2 hb0
 go_loopw [4,5,6,47] (fun _ _ _ s wr=>∃ i:Nat,i≤n1∧s=.int .i64 i∧(∀ j,j < i→ptE P j=0)∧Below W.heap.size W wr) (fun _ _ _ s _=>n1 - (intOf s).toNat)
 case atStart=>exact⟨0,by omega,rfl,fun j hj=>by omega,Below.refl _ _⟩
 case round =>
  obtain⟨i,hi,rfl,hok,hb⟩:=hrel
  have HOK:=hid hok
  clear hok
  by_cases hlt:i < n1
  ·obtain⟨ad,x,rfl,had,hx,c0,ck⟩:=(HP.out.on (HW.out _ hb)).at_ pcq_len (by omega) hlt
   have hPA:=(HPT.out x (List.mem_of_getElem? hx)).on (HW.out _ hb)
   have d0:=c0 _ rfl
   have d1:=ck 1 _ (by omega) rfl
   have d2:=ck 2 _ (by omega) rfl
   have d3:=ck 3 _ (by omega) rfl
   have d4:=ck 4 _ (by omega) rfl
   have d5:=ck 5 _ (by omega) rfl
   have d6:=ck 6 _ (by omega) rfl
   have d7:=ck 7 _ (by omega) rfl
   have d8:=ck 8 _ (by omega) rfl
   have d9:=ck 9 _ (by omega) rfl
   have d10:=ck 10 _ (by omega) rfl
   have HE1:Hid (nameF x.1.name=false→ptE P i=15):=hid fun h=>ptE_name hx h
   have HE2:Hid (∀(k:Nat) (y:Pq),k < i→P[k]? = some y→(decide (y.1.name=x.1.name))=true→ptE P i=15):=hid fun k y hk hy h=>ptE_twice hx hk hy h
   have HE3:Hid (nameF x.1.name=true→(∀(k:Nat) (y:Pq),k < i→P[k]? = some y→(decide (y.1.name=x.1.name))=false)→ptE P i=if partF x.1 x.2=true then 0 else 16):=hid fun hn h=>ptE_end hx hn h
   have HWP:=hid (WP.out i hlt HOK.out)
   have HNX:=hid fun(h:ptE P i=0)=>lt_more (p:=fun j=>ptE P j=0) HOK.out h
   obtain⟨⟨nm,bu,pe,sc,st,pa,pn,pc,h0,h1,h2,h3,h4⟩,L⟩:=x
   dsimp only at d0 d1 d2 d3 d4 d5 d6 d7 d8 d9 d10 HE1 HE2 HE3
   have hbx:=bl1 wr (.cells #[.string nm,.int .i64 bu,.int .i64 pe,.bool sc,.bool st,.slice pa pn pc,.int .i64 h0,.int .i64 h1,.int .i64 h2,.int .i64 h3,.int .i64 h4] 57)
   have hb1:=hb.trans (hbx.mono hb.size)
   have hPA1:=hid (hPA.on hbx)
   have f:∀ o v,(#[Value.string nm,.int .i64 bu,.int .i64 pe,.bool sc,.bool st,.slice pa pn pc,.int .i64 h0,.int .i64 h1,.int .i64 h2,.int .i64 h3,.int .i64 h4]:Array Value)[o]? = some v→(wr.alloc (.cells #[.string nm,.int .i64 bu,.int .i64 pe,.bool sc,.bool st,.slice pa pn pc,.int .i64 h0,.int .i64 h1,.int .i64 h2,.int .i64 h3,.int .i64 h4] 57)).cell? ⟨wr.heap.size,o,none⟩=some v:=fun o v hv=>(World.cell?_alloc_mark _ _ _ _ _).trans hv
   have hgx:wr.heap.size < (wr.alloc (.cells #[.string nm,.int .i64 bu,.int .i64 pe,.bool sc,.bool st,.slice pa pn pc,.int .i64 h0,.int .i64 h1,.int .i64 h2,.int .i64 h3,.int .i64 h4] 57)).heap.size:=by simp
   have HF:=hid f
   have m0:=HM.out wr hb 0 _ M0.out
   clear c0 ck hx hbx hPA f HOK
   have f0:=HF.out 0 _ rfl
   have HNM:=hid (xname_any nm (wr.alloc (.cells #[.string nm,.int .i64 bu,.int .i64 pe,.bool sc,.bool st,.slice pa pn pc,.int .i64 h0,.int .i64 h1,.int .i64 h2,.int .i64 h3,.int .i64 h4] 57)) hPA1.out.name)
   generalize nameF nm=bn at HE1 HE3 HNM
   go_wp2_with fail
   refine HNM.out.mono ?_
   rintro e w5⟨rfl,rfl⟩
   generalize wr.alloc (.cells #[.string nm,.int .i64 bu,.int .i64 pe,.bool sc,.bool st,.slice pa pn pc,.int .i64 h0,.int .i64 h1,.int .i64 h2,.int .i64 h3,.int .i64 h4] 57)=w5 at hb1 HF hPA1 hgx HNM f0 ⊢
   generalize wr.heap.size=gx at HF hgx f0 ⊢
   have HB5:=hid hb1
   have hPA5:=hPA1
   have HF5:=hid fun(W':World) (hb:Below w5.heap.size w5 W') (o:Nat) v hv=>((hb.cell (p:=⟨gx,o,none⟩) hgx)).trans (HF.out o v hv)
   clear HNM HF hPA1 hb1 hgx f0 d0 d1 d2 d3 d4 d5 d6 d7 d8 d9 d10 had hb m0
   cases bn
   ·have k15:=HE1.out rfl
    have hv:=HWP.out (by rw[k15];decide)
    rw[k15] at hv
    injection hv with hv1 hv2
    subst hv1 hv2
    clear HE1 HE2 HE3 HWP HNX k15 WP WC WT WOK HTW
    go_wp2_with fail
    go_ret2
    exact Ans.mk rfl (HW.out _ HB5.out)
   ·have HE3b:=hid (HE3.out rfl)
    clear HE1 HE3
    go_wp2_with fail
    go_loopw [6] (fun s wx=>∃ j:Nat,j≤i∧s=.int .i64 j∧(∀ k (y:Pq),k < j→P[k]? = some y→(decide (y.1.name=nm))=false)∧Below w5.heap.size w5 wx) (fun s _=>i - (intOf s).toNat)
    case atStart=>exact⟨0,by omega,rfl,fun k y hk=>by omega,Below.refl _ _⟩
    case round =>
     obtain⟨j,hj,rfl,hok,hb⟩:=hrel
     have HOK:=hid hok
     clear hok
     have HBX:=hid (HB5.out.trans (hb.mono HB5.out.size))
     by_cases hji:j < i
     ·obtain⟨ad2,y,hA2,had2,hy,c0,ck⟩:=(HP.out.on (HW.out _ HBX.out)).at_ pcq_len (by omega) (show j < n1 by omega)
      obtain rfl:ad=ad2:=by injection hA2
      have d0:=c0 _ rfl
      have f0:=HF5.out _ hb 0 _ rfl
      have m0:=HM.out _ HBX.out 0 _ M0.out
      have HE2:=hid (HE2.out j y hji hy)
      have HNJ:Hid ((decide (y.1.name=nm))=false→∀ k (y:Pq),k < j+1→P[k]? = some y→(decide (y.1.name=nm))=false):=hid fun h k y' hk hy'=>by
       rcases Nat.lt_or_ge k j with h5 | h5
       ·exact HOK.out k y' h5 hy'
       ·obtain rfl:k=j:=by omega
        rw[hy] at hy'
        injection hy' with hy'
        rw[← hy']
        exact h
      obtain⟨⟨nm2,bu2,pe2,sc2,st2,pa2,pn2,pc2,k0,k1,k2,k3,k4⟩,L2⟩:=y
      dsimp only at d0 HE2 HNJ
      have hji':(j:Int) < (i:Int):=by omega
      have HBI:=hid hb
      clear c0 ck hy hA2 had2 hb HOK
      cases hq:decide (nm2=nm) with
      | true =>
       have k15:=HE2.out hq
       have hv:=HWP.out (by rw[k15];decide)
       rw[k15] at hv
       injection hv with hv1 hv2
       subst hv1 hv2
       clear HE2 HE3b HWP HNX k15 WP WC WT WOK HTW HNJ
       have hqd:(nm2.toList == nm.toList)=true:=bs_eq_of hq
       go_wp2_with fail
       go_quiet (fail)
       go_wp2_with fail
       go_ret2
       exact Ans.mk rfl (HW.out _ (Below.drewN HBX.out nq))
      | false =>
       have HNJ2:=hid (HNJ.out hq)
       have hqd:(nm2.toList == nm.toList)=false:=bs_eq_of hq
       clear HE2 HE3b HNJ
       go_wp2_with fail
       go_quiet (fail)
       go_wp2_with fail
       go_roundw
       case rel=>exact⟨j+1,by omega,by go_num,HNJ2.out,Below.drewN HBI.out nq⟩
       case measure=>simp[intOf];omega
     ·have hji':¬ (j:Int) < (i:Int):=by omega
      have HE4:=hid (HE3b.out fun k y hk hy=>HOK.out k y (by omega) hy)
      have f0:=HF5.out _ hb 0 _ rfl
      have f1:=HF5.out _ hb 1 _ rfl
      have f2:=HF5.out _ hb 2 _ rfl
      have f3:=HF5.out _ hb 3 _ rfl
      have f4:=HF5.out _ hb 4 _ rfl
      have f5:=HF5.out _ hb 5 _ rfl
      have f6:=HF5.out _ hb 6 _ rfl
      have f7:=HF5.out _ hb 7 _ rfl
      have f8:=HF5.out _ hb 8 _ rfl
      have f9:=HF5.out _ hb 9 _ rfl
      have f10:=HF5.out _ hb 10 _ rfl
      have HPX:=hPA5.out.on hb
      have HPR:=hid (xpart_any ⟨nm,bu,pe,sc,st,pa,pn,pc,h0,h1,h2,h3,h4⟩ L wr HPX.procs)
      generalize partF ⟨nm,bu,pe,sc,st,pa,pn,pc,h0,h1,h2,h3,h4⟩ L=b at HPR HE4
      clear HPX hb HE2 HE3b HOK
      go_wp2_with fail
      refine HPR.out.mono ?_
      rintro e w6⟨rfl,hb6⟩
      have HB6:=hid (HBX.out.trans (hb6.mono HBX.out.size))
      clear hb6 f0 f1 f2 f3 f4 f5 f6 f7 f8 f9 f10
      cases b
      ·have k16:ptE P i=16:=HE4.out
       have hv:=HWP.out (by rw[k16];decide)
       rw[k16] at hv
       injection hv with hv1 hv2
       subst hv1 hv2
       clear HE4 HWP HNX k16 WP WC WT WOK HTW
       go_wp2_with fail
       go_ret2
       exact Ans.mk rfl (HW.out _ HB6.out)
      ·have k0:ptE P i=0:=HE4.out
       have HNX2:=hid (HNX.out k0)
       clear k0 HE4 HWP HNX
       go_wp2_with fail
       go_roundw
       case rel=>exact⟨i+1,by omega,by go_num,HNX2.out,HB6.out⟩
       case measure=>simp[intOf];omega
  ·have hge:n1≤i:=by omega
   have HPK:Hid (∀ j,j < n1→ptE P j=0):=hid fun j hj=>HOK.out j (by omega)
   have WC2:=hid (WC.out HPK.out)
   have WT2:=hid (WT.out HPK.out)
   have WOK2:=hid (WOK.out HPK.out)
   have m1:=HM.out wr hb 1 _ M1.out
   clear WP WC WT WOK HOK
   go_wp2_with fail
   go_loopw [7,8,80] (fun _ _ s wx=>∃ j:Nat,j≤n2∧s=.int .i64 j∧(∀ k,k < j→chE C n1 k=0)∧Below W.heap.size W wx) (fun _ _ s _=>n2 - (intOf s).toNat)
   case atStart=>exact⟨0,by omega,rfl,fun k hk=>by omega,hb⟩
   case round =>
    obtain⟨j,hj,rfl,hok,hb⟩:=hrel
    have HOK:=hid hok
    clear hok
    by_cases hlt:j < n2
    ·obtain⟨ad,x,rfl,had,hx,c0,ck⟩:=(HC.out.on (HW.out _ hb)).at_ cc_len (by omega) hlt
     have d0:=c0 _ rfl
     have d1:=ck 1 _ (by omega) rfl
     have d2:=ck 2 _ (by omega) rfl
     have d3:=ck 3 _ (by omega) rfl
     have d4:=ck 4 _ (by omega) rfl
     have d5:=ck 5 _ (by omega) rfl
     have HE:=hid (chE_at (n:=n1) hx)
     have HWC:=hid (WC2.out j hlt HOK.out)
     have HNX:=hid fun(h:chE C n1 j=0)=>lt_more (p:=fun j=>chE C n1 j=0) HOK.out h
     obtain⟨xf,xt,xq,xc,xm,xl⟩:=x
     dsimp only at d0 d1 d2 d3 d4 d5
     have hbx:=bl1 wr (.cells #[.int .i64 xf,.int .i64 xt,.bool xq,.int .i64 xc,.int .u32 xm,.int .i64 xl] 63)
     have HB1:=hid (hb.trans (hbx.mono hb.size))
     have m0:=HM.out _ HB1.out 0 _ M0.out
     have HCR:=hid (xchan_any ⟨xf,xt,xq,xc,xm,xl⟩ (n1:Int))
     generalize chanF ⟨xf,xt,xq,xc,xm,xl⟩ (n1:Int)=b at HCR HE
     clear c0 ck hx hbx HOK
     go_wp2_with fail
     refine(HCR.out _).mono ?_
     rintro e w5⟨rfl,hb5⟩
     have HB5:=hid (HB1.out.trans (hb5.mono HB1.out.size))
     clear hb5 d0 d1 d2 d3 d4 d5 m0
     cases b
     ·have k17:chE C n1 j=17:=HE.out
      have hv:=HWC.out (by rw[k17];decide)
      rw[k17] at hv
      injection hv with hv1 hv2
      subst hv1 hv2
      clear HE HWC HNX k17 WC2 WT2 WOK2 HTW
      go_wp2_with fail
      go_ret2
      exact Ans.mk rfl (HW.out _ HB5.out)
     ·have k0:chE C n1 j=0:=HE.out
      have HNX2:=hid (HNX.out k0)
      clear k0 HE HWC HNX
      go_wp2_with fail
      go_roundw
      case rel=>exact⟨j+1,by omega,by go_num,HNX2.out,HB5.out⟩
      case measure=>simp[intOf];omega
    ·have hge:n2≤j:=by omega
     have HCK:Hid (∀ k,k < n2→chE C n1 k=0):=hid fun k hk=>HOK.out k (by omega)
     have WT3:=hid (WT2.out HCK.out)
     have WOK3:=hid (WOK2.out HCK.out)
     have m2:=HM.out wr hb 2 _ M2.out
     clear WC2 WT2 WOK2 HOK
     go_wp2_with fail
     go_loopw [9,10,11,12,14,15,96] (fun _ _ _ _ _ _ s wx=>∃ j:Nat,j≤n3∧s=.int .i64 j∧(∀ k,k < j→tbE P C T k=0)∧Below W.heap.size W wx) (fun _ _ _ _ _ _ s _=>n3 - (intOf s).toNat)
     case atStart=>exact⟨0,by omega,rfl,fun k hk=>by omega,hb⟩
     case round =>
      obtain⟨j,hj,rfl,hok,hb⟩:=hrel
      have HOK:=hid hok
      clear hok
      by_cases hlt:j < n3
      ·obtain⟨ad,t,rfl,had,hx,c0,ck⟩:=(HT.out.on (HW.out _ hb)).at_ tcn_len (by omega) hlt
       have d0:=c0 _ rfl
       rw[Nat.mul_one] at d0
       have hTA:=(HTT.out t (List.mem_of_getElem? hx)).on (HW.out _ hb)
       have hte:=(tbE_at (P:=P) (C:=C) hx).trans (HTW.out t.l)
       have HWT:=hid (WT3.out j hlt HOK.out)
       have HNX:=hid fun(h:tbE P C T j=0)=>lt_more (p:=fun j=>tbE P C T j=0) HOK.out h
       have HOF:=hid (rofx_any t wr hTA)
       have hz4:=fun e=>(ofF_ok (l:=t.l) e).1
       have hz5:=fun e=>(ofF_ok (l:=t.l) e).2
       obtain⟨A,n,c,ll⟩:=t
       dsimp only at d0 hte HOF hz4 hz5
       generalize (ofF ll).1=z at HOF hz4 hz5 hte
       generalize (ofF ll).2=L at HOF hz4 hz5 hte
       have HTE:=hid hte
       have HZ4:=hid hz4
       have HZ5:=hid hz5
       clear c0 ck hx hTA hz4 hz5 hte HOK
       go_wp2_with fail
       refine HOF.out.mono ?_
       rintro e w5⟨A4,n4,c4,rfl,hc4,hr4,hb5⟩
       have hb6:=hb.trans (hb5.mono hb.size)
       clear hb5 d0
       by_cases hz:z=0
       ·have hzd:(z != 0)=false:=by rw[hz];rfl
        have hr:=hr4 hz
        have h4:=HZ4.out hz
        have h5:=HZ5.out hz
        have HR:=hid hr
        have hn4:n4≤96:=by rw[← hr.len];exact h5
        have HTE2:=hid (HTE.out.trans (if_pos hz))
        clear hr4 hr
        subst hz
        clear HTE
        go_wp2_with fail
        go_loopw [14,112] (fun _ s wx=>∃ i:Nat,i≤n4∧s=.int .i64 i∧(∀(k:Nat) (r:Rn),k < i→L[k]? = some r→¬ (n1:Int)≤r.p)∧Below w5.heap.size w5 wx) (fun _ s _=>n4 - (intOf s).toNat)
        case atStart=>exact⟨0,by omega,rfl,fun k r hk=>by omega,Below.refl _ _⟩
        case round =>
         obtain⟨i,hi4,rfl,hok,hb⟩:=hrel
         have HOK:=hid hok
         clear hok
         have HBX:=hid (hb6.trans (hb.mono hb6.size))
         by_cases hlt4:i < n4
         ·obtain⟨ad4,r,rfl,had4,hx4,e0,e1⟩:=(HR.out.on hb).at_ hlt4
          have hbx:=bl1 wr (.cells #[.int .i64 r.p,.int .i64 r.n] 114)
          have HB1:=hid (hb.trans (hbx.mono hb.size))
          have HB2:=hid (HBX.out.trans (hbx.mono HBX.out.size))
          have m0:=HM.out _ HB2.out 0 _ M0.out
          have HNI:Hid (¬ (n1:Int)≤r.p→∀(k:Nat) (r:Rn),k < i+1→L[k]? = some r→¬ (n1:Int)≤r.p):=hid fun h k r' hk hy'=>by
           rcases Nat.lt_or_ge k i with h5 | h5
           ·exact HOK.out k r' h5 hy'
           ·obtain rfl:k=i:=by omega
            rw[hx4] at hy'
            injection hy' with hy'
            rw[← hy']
            exact h
          have HAN:Hid ((n1:Int)≤r.p→L.any (fun r=>decide ((n1:Int)≤r.p))=true):=hid fun h=>List.any_eq_true.2 ⟨r,List.mem_of_getElem? hx4,decide_eq_true h⟩
          clear hbx hx4 had4 hb HOK
          by_cases hrp:(n1:Int)≤r.p
          ·have k16:tbE P C T j=16:=by
            have e:=HTE2.out
            rw[HAN.out hrp] at e
            exact e
           have hv:=HWT.out (by rw[k16];decide)
           rw[k16] at hv
           injection hv with hv1 hv2
           subst hv1 hv2
           clear HTE2 HWT HNX k16 WT3 WOK3 HTW HNI HAN
           go_wp2_with fail
           go_ret2
           exact Ans.mk rfl (HW.out _ HB2.out)
          ·have HNI2:=hid (HNI.out hrp)
           clear HNI HAN
           go_wp2_with fail
           go_roundw
           case rel=>exact⟨i+1,by omega,by go_num,HNI2.out,HB1.out⟩
           case measure=>simp[intOf];omega
         ·have hge4:n4≤i:=by omega
          have HTE3:Hid (tbE P C T j=holdsF (wordsL L) (P.map Prod.fst) C):=hid (by
           have e:=HTE2.out
           have ha:L.any (fun r=>decide ((n1:Int)≤r.p))=false:=by
            rw[List.any_eq_false]
            intro r hr
            obtain⟨k,hk⟩:=List.getElem?_of_mem hr
            have:=HOK.out k r (by have:=(List.getElem?_eq_some_iff.1 hk).1;have:=HR.out.len;omega) hk
            simpa using this
           rw[ha] at e
           exact e)
          have m0:=HM.out _ HBX.out 0 _ M0.out
          have m1:=HM.out _ HBX.out 1 _ M1.out
          have m2:=HM.out _ HBX.out 2 _ M2.out
          have HHO:=hid (holdsx_any A1 A2 (some ad) A4 n1 n2 n3 n4 c1 c2 c3 c4 (P.map Prod.fst) C L wr (HP.out.on (HW.out _ HBX.out)).fsts (HC.out.on (HW.out _ HBX.out)) (HR.out.on hb) (by omega) (by omega) hc4 (by omega) (by omega) HPM.out)
          generalize holdsF (wordsL L) (P.map Prod.fst) C=z at HHO HTE3
          clear hb HTE2 HOK
          go_wp2_with fail
          refine HHO.out.mono ?_
          rintro e w7⟨rfl,hb7⟩
          have HB7:=hid (HBX.out.trans (hb7.mono HBX.out.size))
          clear hb7 m0 m1 m2 HHO
          by_cases hz:z=0
          ·have hzd:(z != 0)=false:=by rw[hz];rfl
           have HNX2:=hid (HNX.out (HTE3.out.trans hz))
           clear HTE3 HNX HWT
           subst hz
           go_wp2_with fail
           go_roundw
           case rel=>exact⟨j+1,by omega,by go_num,HNX2.out,HB7.out⟩
           case measure=>simp[intOf];omega
          ·have hzd:(z != 0)=true:=bne_iff_ne.2 hz
           have hv:=HWT.out (by rw[HTE3.out];exact hz)
           rw[HTE3.out] at hv
           injection hv with hv1 hv2
           subst hv1 hv2
           clear HTE3 HWT HNX WT3 WOK3 HTW
           go_wp2_with fail
           go_ret2
           exact Ans.mk rfl (HW.out _ HB7.out)
       ·have hzd:(z != 0)=true:=bne_iff_ne.2 hz
        have kz:tbE P C T j=z:=HTE.out.trans (if_neg hz)
        have hv:=HWT.out (by rw[kz];exact hz)
        rw[kz] at hv
        injection hv with hv1 hv2
        subst hv1 hv2
        clear HTE HWT HNX kz WT3 WOK3 HTW
        go_wp2_with fail
        go_ret2
        exact Ans.mk rfl (HW.out _ hb6)
      ·have hge:n3≤j:=by omega
       have hv:=WOK3.out fun k hk=>HOK.out k (by omega)
       injection hv with hv1 hv2
       subst hv1 hv2
       clear WT3 WOK3 HTW HOK
       go_wp2_with fail
       go_ret2
       exact Ans.mk rfl (HW.out _ hb)
theorem xright_any(A1 A2 A3:Option Addr)(n1 n2 n3 c1 c2 c3:Nat)(P:List Pq)(C:List ChV)(T:List NdT)(w:World)(hP:RdB pcq w w.heap.size A1 n1 P)(hC:RdB cc w w.heap.size A2 n2 C)(hT:RdB tcn w w.heap.size A3 n3 T)
  (hp:∀ x∈P,PtAx w w.heap.size x) (ht:∀ t∈T,NdAt w w.heap.size t) :
  Calls Tryz.prog 24 #[.agg #[.slice A1 n1 c1,.slice A2 n2 c2,.slice A3 n3 c3]] w (Ans (.int .i64 (whereF P C T).1) w):=by
 have hb0:=bl1 w (.cells #[.slice A1 n1 c1,.slice A2 n2 c2,.slice A3 n3 c3] 26)
 have HW:=hid (xwhere_any A1 A2 A3 n1 n2 n3 c1 c2 c3 P C T _ (hP.on hb0) (hC.on hb0) (hT.on hb0) (fun x hx=>(hp x hx).on hb0) (fun t ht'=>(ht t ht').on hb0))
 clear hP hC hT hp ht
 go_enter Tryz.func24,Tryz.ntmps24
 go_wp2_with fail
 refine HW.out.mono ?_
 rintro e w5⟨rfl,hb5⟩
 go_wp2_with fail
 go_ret
 exact Ans.mk rfl (hb0.trans (hb5.mono hb0.size))
end Go.Proofs.YtdkngfdnfekgfaaGreat
