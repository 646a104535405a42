import Derived.Test.YtdkngfdnfekgfaaGreatLot38
import Derived.Laws.CopyOwn
import Derived.Laws.ResultCell
set_option maxRecDepth 100000
set_option linter.unusedSimpArgs false
set_option linter.unusedVariables false
namespace Go.Proofs.YtdkngfdnfekgfaaGreat
open Go.RowKit Tab
theorem loadVar_own{T n:Nat}{w:World}{B g:Nat}{l:List Value}(e:(isAgg T).run Tryz.prog w=.ok true w)(e2:(sizeOf T).run Tryz.prog w=.ok n w)(h:OwnV T n w B (some ⟨g,0,none⟩) 1 1 l):(loadVar T ⟨g,0,none⟩).run Tryz.prog w=.ok (.agg l.toArray) w:=by
 have hl:l.length=n:=by have:=h.1;omega
 unfold loadVar;rw[Sem.run_bind,e,Result.andThen_ok];simp only[if_true];rw[Sem.run_bind,e2,Result.andThen_ok,Sem.run_bind];have:=run_loadCells_list (P:=Tryz.prog) (w:=w) ⟨g,0,none⟩ l (fun j v hj=>by
  rw[mk_add];have hlt:=(List.getElem?_eq_some_iff.1 hj).1;have h1:=World.ownsRow.cellAt h j (by omega);have h2:=(List.getElem?_eq_some_iff.1 hj).2
  first | exact h1.trans (congrArg some h2) | (rw[h1];simp[← h2]))
 rw[hl] at this;rw[this,Result.andThen_ok];rfl
theorem storeVar_own{T n:Nat}{w:World}{B g:Nat}{old l:List Value}(e2:(sizeOf T).run Tryz.prog w=.ok n w)(h:OwnV T n w B (some ⟨g,0,none⟩) 1 1 old)(hl:l.length=n)(h1:∀ v∈l,v.oneCell'=true):
  ∃ w',(storeVar T ⟨g,0,none⟩ (.agg l.toArray)).run Tryz.prog w=.ok () w'∧OwnV T n w' B (some ⟨g,0,none⟩) 1 1 l∧w.grownBy w' (some g):=by
 rcases h.2 with ⟨hv,_⟩ | ⟨g',cap,cur,hv,hb,hg,h2,h3,h4,h5⟩
 ·cases hv
 injection hv with k1 k2 k3;injection k1 with k1;injection k1 with k1;subst k1;subst k3;have hc:cur.size=n:=by omega
 have hrun:=run_storeCells_at (P:=Tryz.prog) g 0 T l 0 cur w hg (by omega) h1;have hx:(cur.toList.take (0+0)++l++cur.toList.drop (0+0+l.length)).toArray=l.toArray:=by
  rw[List.drop_eq_nil_of_le (by rw[Array.length_toList];omega)];simp
 rw[hx] at hrun;refine⟨w.setRow g l.toArray,?_,?_,?_⟩
 ·unfold storeVar;rw[Sem.run_bind,e2,Result.andThen_ok];have hz:(Value.agg l.toArray).cells=l.toArray:=rfl;rw[hz];simp only[List.size_toArray,hl,ne_eq,not_true_eq_false,if_false];exact hrun
 ·refine⟨by omega,.inr ⟨g,1,l.toArray,rfl,hb,setRow_heap w g cur l.toArray T _ hg,h2,h3,by rw[List.size_toArray];omega,?_⟩⟩;rw[List.take_of_length_le (by rw[List.toList_toArray];omega)]
 exact⟨rfl,rfl,rfl,by simp,fun i _ hne=>setRow_other w g i _ fun e=>hne (by rw[e])⟩
theorem wpList_loadX{T n:Nat}{ops:Array Oper}{rest:List Oper}{o:Oper}{a:Act}{Q:Exit→Act→World→Prop}{w:World}{B g:Nat}{l:List Value}(hgd:o.guard=none)(x:Operand)(ho:o.op=.load T x)(hx:a.eval x=.pointer (some ⟨g,0,none⟩))
  (e:(isAgg T).run Tryz.prog w=.ok true w) (e2:(sizeOf T).run Tryz.prog w=.ok n w) (h:OwnV T n w B (some ⟨g,0,none⟩) 1 1 l) (hK:wpList Tryz.prog ops Q rest (a.put o.dst (.agg l.toArray)) w):wpList Tryz.prog ops Q (o::rest) a w:=by
 refine wpList_plain hgd fun K hk=>?_;have hl:=loadVar_own e e2 h;have hs:(Instr.loadAt T (.pointer (some ⟨g,0,none⟩))).run Tryz.prog w=.ok (.agg l.toArray) w:=by
  unfold Instr.loadAt;exact hl
 unfold Oper.wp execOp;simp only[ho,Sem.run_bind,Sem.run_pure,Result.andThen_ok,hx,hs];exact hk _ _ hK
theorem wpList_storeX{T n:Nat}{ops:Array Oper}{rest:List Oper}{o:Oper}{a:Act}{Q:Exit→Act→World→Prop}{w:World}{B g:Nat}{old l:List Value}(hgd:o.guard=none)(x y:Operand)(ho:o.op=.store T x y)(hx:a.eval x=.pointer (some ⟨g,0,none⟩))(hy:a.eval y=.agg l.toArray)
  (e2:(sizeOf T).run Tryz.prog w=.ok n w) (h:OwnV T n w B (some ⟨g,0,none⟩) 1 1 old) (hl:l.length=n) (h1:∀ v∈l,v.oneCell'=true) (hK:∀ w',OwnV T n w' B (some ⟨g,0,none⟩) 1 1 l→w.grownBy w' (some g)→wpList Tryz.prog ops Q rest (a.put o.dst undef) w'):wpList Tryz.prog ops Q (o::rest) a w:=by
 refine wpList_plain hgd fun K hk=>?_;obtain⟨w',hrun,h3,h4⟩:=storeVar_own e2 h hl h1;have hs:(Instr.storeAt T (.pointer (some ⟨g,0,none⟩)) (.agg l.toArray)).run Tryz.prog w=.ok () w':=by
  unfold Instr.storeAt;exact hrun
 unfold Oper.wp execOp;simp only[ho,Sem.run_bind,Sem.run_pure,Result.andThen_ok,hx,hy,hs];exact hk _ _ (hK w' h3 h4)
theorem i_pcq(y:Pq):∀ u∈pcq y,u.oneCell'=true:=by
 intro u hu;simp[pcq,pcl] at hu;rcases hu with rfl | rfl | rfl | rfl | rfl | rfl | rfl | rfl | rfl | rfl | rfl <;> rfl
theorem i_cc(y:ChV):∀ u∈cc y,u.oneCell'=true:=by
 intro u hu;simp[cc] at hu;rcases hu with rfl | rfl | rfl | rfl | rfl | rfl <;> rfl
theorem i_tcn(y:NdT):∀ u∈tcn y,u.oneCell'=true:=by
 intro u hu;simp[tcn] at hu;rcases hu with rfl;rfl
theorem rowf{T n B g:Nat}{w:World}{l:List Value}(o:OwnV T n w B (some ⟨g,0,none⟩) 1 1 l)(k:Nat)(v:Value)(hv:l[k]? = some v):w.cell? ⟨g,k,none⟩=some v∧w.frozen? ⟨g,k,none⟩=false :=
 ⟨(World.ownsRow.cellAt o k (by have:=(List.getElem?_eq_some_iff.1 hv).1;have:=o.1;omega)).trans hv,World.ownsRow.frozenAt o k⟩
theorem results_oneX{fn:Func}{p:Tmp}{T n:Nat}(h:fn.results=#[.cell p T]){tmps:Array Value}{w:World}{B g:Nat}{l:List Value}(e:(isAgg T).run Tryz.prog w=.ok true w)(e2:(sizeOf T).run Tryz.prog w=.ok n w)(hp:tmps.getD p undef=.pointer (some ⟨g,0,none⟩))(ho:OwnV T n w B (some ⟨g,0,none⟩) 1 1 l):(results fn tmps).run Tryz.prog w=.ok (.agg l.toArray) w:=by
 have e3:(asAddr (.pointer (some ⟨g,0,none⟩))).run Tryz.prog w=.ok ⟨g,0,none⟩ w:=rfl;rw[results_cell1 h,hp,e3,Result.andThen_ok,loadVar_own e e2 ho]
theorem results_twoX{fn:Func}{p q:Tmp}{T n:Nat}(h:fn.results=#[.cell p T,.tmp q]){tmps:Array Value}{w:World}{B g:Nat}{l:List Value}(e:(isAgg T).run Tryz.prog w=.ok true w)(e2:(sizeOf T).run Tryz.prog w=.ok n w)(hp:tmps.getD p undef=.pointer (some ⟨g,0,none⟩))(ho:OwnV T n w B (some ⟨g,0,none⟩) 1 1 l):(results fn tmps).run Tryz.prog w=.ok (.tuple #[.agg l.toArray,tmps.getD q undef]) w:=by
 have e3:(asAddr (.pointer (some ⟨g,0,none⟩))).run Tryz.prog w=.ok ⟨g,0,none⟩ w:=rfl;rw[results_cell_tmp h,hp,e3,Result.andThen_ok,loadVar_own e e2 ho,Result.andThen_ok]
theorem szPt(w:World):(sizeOf 57).run Tryz.prog w=.ok 11 w:=by go_simp
theorem agPt(w:World):(isAgg 57).run Tryz.prog w=.ok true w:=by go_simp
theorem szCh(w:World):(sizeOf 63).run Tryz.prog w=.ok 6 w:=by go_simp
theorem agCh(w:World):(isAgg 63).run Tryz.prog w=.ok true w:=by go_simp
theorem szCf(w:World):(sizeOf 26).run Tryz.prog w=.ok 3 w:=by go_simp
theorem agCf(w:World):(isAgg 26).run Tryz.prog w=.ok true w:=by go_simp
def Nw(A A':Option Addr)(W0:World):Prop:=obk A'=obk A∨∃ g,obk A'=some g∧W0.heap.size≤g
theorem KpS.more{A A' A'':Option Addr}{W0 w w':World}(h:KpS (fun q=>obk A=some q) W0 w)(n:Nw A A' W0)(g:Grew A' A'' w w'):KpS (fun q=>obk A=some q) W0 w'∧Nw A A'' W0:=by
 refine⟨⟨g.gb.os.trans h.os,g.gb.tape.trans h.tape,g.gb.output.trans h.output,Nat.le_trans h.size g.gb.size,fun k hk h1=>(g.gb.block k (Nat.lt_of_lt_of_le hk h.size) fun e=>?_).trans (h.block k hk h1)⟩,?_⟩
 ·rcases n with e2 | ⟨q,e2,hq⟩
  ·exact h1 (by rw[← e2,← e])
  rw[e2] at e;injection e with e;omega
 rcases g.at_ with e | ⟨q,e,hq⟩
 ·rcases n with e2 | ⟨p,e2,hp⟩
  ·exact .inl (e.trans e2)
  exact .inr ⟨p,e.trans e2,hp⟩
 exact .inr ⟨q,e,Nat.le_trans h.size hq⟩
theorem PutA.made{B n:Nat}{A:Option Addr}{l:List UInt8}{w w':World}{e:Ending}(h:Made w n l e w')(hB:B≤w.heap.size)(h0:0 < n):PutA B A l w e w':=by
 obtain⟨A',c',rfl,ho,hb⟩:=h;obtain⟨ad,rfl,_⟩:=ho.rd.2 h0;exact⟨_,n,c',rfl,ho.weak hB,⟨hb.os,hb.tape,hb.output,hb.size,fun i hi _=>hb.block i hi⟩,.inr ⟨ad.block,rfl,(OwnV.obk_ge ho (b:=ad.block) rfl).1⟩⟩
theorem row_enc(z:Nat→Int)(zs:List Int)(h:∀ j x,zs[j]? = some x→z j=x):encN z zs.length=zs.flatMap Num.enc:=by
 have e:zs=(List.range zs.length).map z:=by
  apply List.ext_getElem?;intro j;rcases Nat.lt_or_ge j zs.length with hj | hj
  ·rw[List.getElem?_map,List.getElem?_range hj,List.getElem?_eq_getElem hj,Option.map_some,h j _ (List.getElem?_eq_getElem hj)]
  rw[List.getElem?_eq_none hj,List.getElem?_eq_none (by simpa using hj)]
 unfold encN
 conv=>rhs;rw[e,List.flatMap_map]
theorem puti_row{E B B2 n c g m d:Nat}{A:Option Addr}{l:List UInt8}{zs:List Int}{w:World}(h:Own w B A n c l)(hB:B≤w.heap.size)(hr:OwnV E 1 w B2 (some ⟨g,0,none⟩) m d (zs.map (.int .i64)))(hE:E≠5)(hz:∀ z∈zs,In64 z)(hn:n≤1000000)(hm:m≤16∧0 < m):
  Calls Tryz.prog 54 #[.slice A n c,.slice (some ⟨g,0,none⟩) m d] w (PutA B A (l++zs.flatMap Num.enc) w):=by
 have hl:zs.length=m:=by have:=hr.1;rw[List.length_map,Nat.mul_one] at this;exact this
 have e:=row_enc (fun j=>zs[j]?.getD 0) zs fun j x hx=>by rw[hx];rfl
 rw[← e,hl];refine puti_any B A n c l ⟨g,0,none⟩ m d _ w (.inl h) hB (fun j hj=>?_) (hr.obk_ge (b:=g) rfl).2 (fun e2=>OwnV.ne h hr hE.symm g e2 rfl) (fun j hj=>?_) hn hm.1 hm.2
 ·have hj':j < zs.length:=by omega
  have:=World.ownsRow.cellAt hr j (by omega);rw[mk_add,this];simp[List.getElem?_eq_getElem hj']
 have hj':j < zs.length:=by omega
 rw[List.getElem?_eq_getElem hj'];exact hz _ (List.getElem_mem hj')
theorem putl_row{E B B2 n c g m d:Nat}{A:Option Addr}{l:List UInt8}{zs:List Int}{w:World}(h:Own w B A n c l)(hB:B≤w.heap.size)(hr:OwnV E 1 w B2 (some ⟨g,0,none⟩) m d (zs.map (.int .i64)))(hE:E≠5)(hz:∀ z∈zs,In64 z)(hn:n≤1000000)(hm:m≤16∧0 < m):
  Calls Tryz.prog 82 #[.slice A n c,.slice (some ⟨g,0,none⟩) m d] w (PutA B A (l++zs.flatMap Num.enc) w):=by
 have hl:zs.length=m:=by have:=hr.1;rw[List.length_map,Nat.mul_one] at this;exact this
 have e:=row_enc (fun j=>zs[j]?.getD 0) zs fun j x hx=>by rw[hx];rfl
 rw[← e,hl];refine putl_any B A n c l ⟨g,0,none⟩ m d _ w (.inl h) hB (fun j hj=>?_) (hr.obk_ge (b:=g) rfl).2 (fun e2=>OwnV.ne h hr hE.symm g e2 rfl) (fun j hj=>?_) hn hm.1 hm.2
 ·have hj':j < zs.length:=by omega
  have:=World.ownsRow.cellAt hr j (by omega);rw[mk_add,this];simp[List.getElem?_eq_getElem hj']
 have hj':j < zs.length:=by omega
 rw[List.getElem?_eq_getElem hj'];exact hz _ (List.getElem_mem hj')
structure ChS(B c1 c2 ca i1 i2:Nat)(t1 t2 t3 u1 u2:Tmp)(E1 E2:Nat)(L1 L2:List Value)(A:Option Addr)(n c:Nat)(l0 l1 l2:List UInt8)(v3:Value)(W0:World)(live:Nat→Bool)(a:Act)(w:World):Prop where
 kp:KpS (fun q=>obk A=some q) W0 w
 e3:live ca=false→a.eval (.tmp t3)=v3
 s0:live c1=false→Own w B A n c l0
 s1:live c1=true→live c2=false→∃ A' n' c',a.eval (.tmp t1)=.slice A' n' c'∧Own w B A' n' c' l1∧Nw A A' W0
 s2:live c2=true→∃ A' n' c',a.eval (.tmp t2)=.slice A' n' c'∧Own w B A' n' c' l2∧Nw A A' W0∧(live ca=true→a.eval (.tmp t3)=.slice A' n' c')
 p1:live i1=true→live c1=false→∃ g,a.eval (.tmp u1)=.slice (some ⟨g,0,none⟩) L1.length L1.length∧OwnV E1 1 w W0.heap.size (some ⟨g,0,none⟩) L1.length L1.length L1
 p2:live i2=true→live c2=false→∃ g,a.eval (.tmp u2)=.slice (some ⟨g,0,none⟩) L2.length L2.length∧OwnV E2 1 w W0.heap.size (some ⟨g,0,none⟩) L2.length L2.length L2
section
variable {B c1 c2 ca i1 i2:Nat} {t1 t2 t3 u1 u2:Tmp} {E1 E2:Nat} {L1 L2:List Value} {A:Option Addr} {n c:Nat} {l0 l1 l2:List UInt8} {v3:Value} {W0:World} {live:Nat→Bool} {a:Act} {w w':World}
theorem ChS.start(ho:Own W0 B A n c l0)(h3:a.eval (.tmp t3)=v3):ChS B c1 c2 ca i1 i2 t1 t2 t3 u1 u2 E1 E2 L1 L2 A n c l0 l1 l2 v3 W0 (fun _=>false) a W0 :=
 ⟨KpS.refl _,fun _=>h3,fun _=>ho,fun e=>(by cases e),fun e=>(by cases e),fun e=>(by cases e),fun e=>(by cases e)⟩
theorem ChS.id(h:ChS B c1 c2 ca i1 i2 t1 t2 t3 u1 u2 E1 E2 L1 L2 A n c l0 l1 l2 v3 W0 live a w)(i:Nat)(d:Tmp)(v:Value)(hi:c1≠i∧c2≠i∧ca≠i∧i1≠i∧i2≠i)(hd:d≠t1∧d≠t2∧d≠t3∧d≠u1∧d≠u2):
  ChS B c1 c2 ca i1 i2 t1 t2 t3 u1 u2 E1 E2 L1 L2 A n c l0 l1 l2 v3 W0 (Rgs.upd live i) (a.put (some d) v) w:=by
 obtain⟨h1,h2,h3,h4,h5⟩:=hi;obtain⟨d1,d2,d3,d4,d5⟩:=hd;have r1:Rgs.upd live i c1=live c1:=upd_ne (Ne.symm h1);have r2:Rgs.upd live i c2=live c2:=upd_ne (Ne.symm h2);have r3:Rgs.upd live i ca=live ca:=upd_ne (Ne.symm h3);have r4:Rgs.upd live i i1=live i1:=upd_ne (Ne.symm h4);have r5:Rgs.upd live i i2=live i2:=upd_ne (Ne.symm h5);have q:∀ {t},d≠t→(a.put (some d) v).eval (.tmp t)=a.eval (.tmp t):=fun ht=>Reg.eval_other _ _ _ _ ht;exact⟨h.kp,by rw[r3,q d3];exact h.e3,by rw[r1];exact h.s0,by rw[r1,r2,q d1];exact h.s1,by rw[r2,r3,q d2,q d3];exact h.s2,by rw[r4,r1,q d4];exact h.p1,by rw[r5,r2,q d5];exact h.p2⟩
theorem ChS.bel(h:ChS B c1 c2 ca i1 i2 t1 t2 t3 u1 u2 E1 E2 L1 L2 A n c l0 l1 l2 v3 W0 live a w)(hb:Below w.heap.size w w'):ChS B c1 c2 ca i1 i2 t1 t2 t3 u1 u2 E1 E2 L1 L2 A n c l0 l1 l2 v3 W0 live a w' :=
 ⟨h.kp.trans (KpS.bel hb),h.e3,fun e=>OwnV.below (h.s0 e) rfl hb,fun e e2=>(by obtain⟨A',n',c',q1,q2,q3⟩:=h.s1 e e2;exact⟨A',n',c',q1,OwnV.below q2 rfl hb,q3⟩),
  fun e=>(by obtain⟨A',n',c',q1,q2,q3⟩:=h.s2 e;exact⟨A',n',c',q1,OwnV.below q2 rfl hb,q3⟩),fun e e2=>(by obtain⟨g,q1,q2⟩:=h.p1 e e2;exact⟨g,q1,OwnV.below q2 rfl hb⟩),fun e e2=>(by obtain⟨g,q1,q2⟩:=h.p2 e e2;exact⟨g,q1,OwnV.below q2 rfl hb⟩)⟩
theorem ChS.lit1(h:ChS B c1 c2 ca i1 i2 t1 t2 t3 u1 u2 E1 E2 L1 L2 A n c l0 l1 l2 v3 W0 live a w)(hi:c1≠i1∧c2≠i1∧ca≠i1∧i2≠i1)(hd:u1≠t1∧u1≠t2∧u1≠t3∧u1≠u2)(hm:L1.length≤16)(hz:u1 < a.tmps.size):
  ChS B c1 c2 ca i1 i2 t1 t2 t3 u1 u2 E1 E2 L1 L2 A n c l0 l1 l2 v3 W0 (Rgs.upd live i1) (a.put (some u1) (.slice (some ⟨w.heap.size,0,none⟩) L1.length L1.length)) (w.alloc (.cells L1.toArray E1)):=by
 obtain⟨h1,h2,h3,h5⟩:=hi;obtain⟨d1,d2,d3,d5⟩:=hd;have k:=h.bel (bl1 w (.cells L1.toArray E1));have q:∀ {t},u1≠t→∀ v,(a.put (some u1) v).eval (.tmp t)=a.eval (.tmp t):=fun ht v=>Reg.eval_other _ _ _ _ ht;refine⟨k.kp,by rw[upd_ne (Ne.symm h3),q d3];exact k.e3,by rw[upd_ne (Ne.symm h1)];exact k.s0,by rw[upd_ne (Ne.symm h1),upd_ne (Ne.symm h2),q d1];exact k.s1,by rw[upd_ne (Ne.symm h2),upd_ne (Ne.symm h3),q d2,q d3];exact k.s2,fun _ _=>⟨_,Reg.eval_same _ _ _ hz,?_⟩,by rw[upd_ne (Ne.symm h5),upd_ne (Ne.symm h2),q d5];exact k.p2⟩;simpa using ownV_lit w E1 1 W0.heap.size L1.toArray L1.length (by simp) h.kp.size (by unfold maxLen;omega)
theorem ChS.lit2(h:ChS B c1 c2 ca i1 i2 t1 t2 t3 u1 u2 E1 E2 L1 L2 A n c l0 l1 l2 v3 W0 live a w)(hi:c1≠i2∧c2≠i2∧ca≠i2∧i1≠i2)(hd:u2≠t1∧u2≠t2∧u2≠t3∧u2≠u1)(hm:L2.length≤16)(hz:u2 < a.tmps.size):
  ChS B c1 c2 ca i1 i2 t1 t2 t3 u1 u2 E1 E2 L1 L2 A n c l0 l1 l2 v3 W0 (Rgs.upd live i2) (a.put (some u2) (.slice (some ⟨w.heap.size,0,none⟩) L2.length L2.length)) (w.alloc (.cells L2.toArray E2)):=by
 obtain⟨h1,h2,h3,h5⟩:=hi;obtain⟨d1,d2,d3,d5⟩:=hd;have k:=h.bel (bl1 w (.cells L2.toArray E2));have q:∀ {t},u2≠t→∀ v,(a.put (some u2) v).eval (.tmp t)=a.eval (.tmp t):=fun ht v=>Reg.eval_other _ _ _ _ ht;refine⟨k.kp,by rw[upd_ne (Ne.symm h3),q d3];exact k.e3,by rw[upd_ne (Ne.symm h1)];exact k.s0,by rw[upd_ne (Ne.symm h1),upd_ne (Ne.symm h2),q d1];exact k.s1,by rw[upd_ne (Ne.symm h2),upd_ne (Ne.symm h3),q d2,q d3];exact k.s2,by rw[upd_ne (Ne.symm h5),upd_ne (Ne.symm h1),q d5];exact k.p1,fun _ _=>⟨_,Reg.eval_same _ _ _ hz,?_⟩⟩;simpa using ownV_lit w E2 1 W0.heap.size L2.toArray L2.length (by simp) h.kp.size (by unfold maxLen;omega)
theorem ChS.call1(h:ChS B c1 c2 ca i1 i2 t1 t2 t3 u1 u2 E1 E2 L1 L2 A n c l0 l1 l2 v3 W0 live a w)(k1:live c1=false)(k2:live c2=false)(hi:c1≠c2∧c1≠ca∧c1≠i2)(hd:t1≠t3∧t1≠u2)(hE:E2≠5)(hz:t1 < a.tmps.size){A':Option Addr}{n' c':Nat}(ho:Own w' B A' n' c' l1)(hg:Grew A A' w w'):
  ChS B c1 c2 ca i1 i2 t1 t2 t3 u1 u2 E1 E2 L1 L2 A n c l0 l1 l2 v3 W0 (Rgs.upd live c1) (a.put (some t1) (.slice A' n' c')) w':=by
 obtain⟨h1,h2,h3⟩:=hi;obtain⟨kp,nw⟩:=h.kp.more (.inl rfl) hg;refine⟨kp,by rw[upd_ne h2,Reg.eval_other _ _ _ _ hd.1];exact h.e3,fun e=>absurd e (by rw[Rgs.upd_self];decide),fun _ _=>⟨A',n',c',Reg.eval_same _ _ _ hz,ho,nw⟩,by rw[upd_ne h1,k2];exact fun e=>(by cases e),fun _ e=>absurd e (by rw[Rgs.upd_self];decide),?_⟩;rw[upd_ne h3,upd_ne h1,Reg.eval_other _ _ _ _ hd.2];exact fun e e2=>by
  obtain⟨g,q1,q2⟩:=h.p2 e e2;exact⟨g,q1,OwnV.grew q2 (h.s0 k1) hE hg⟩
theorem ChS.call2(h:ChS B c1 c2 ca i1 i2 t1 t2 t3 u1 u2 E1 E2 L1 L2 A n c l0 l1 l2 v3 W0 live a w)(k1:live c1=true)(k3:live ca=false)(hi:c2≠c1∧c2≠ca)(hd:t2≠t3)(hz:t2 < a.tmps.size){A1 A':Option Addr}{n' c':Nat}(nw:Nw A A1 W0)(ho:Own w' B A' n' c' l2)(hg:Grew A1 A' w w'):
  ChS B c1 c2 ca i1 i2 t1 t2 t3 u1 u2 E1 E2 L1 L2 A n c l0 l1 l2 v3 W0 (Rgs.upd live c2) (a.put (some t2) (.slice A' n' c')) w':=by
 obtain⟨kp,nw2⟩:=h.kp.more nw hg;refine⟨kp,by rw[upd_ne hi.2,Reg.eval_other _ _ _ _ hd];exact h.e3,by rw[upd_ne hi.1,k1];exact fun e=>(by cases e),fun _ e=>absurd e (by rw[Rgs.upd_self];decide),fun _=>⟨A',n',c',Reg.eval_same _ _ _ hz,ho,nw2,by rw[upd_ne hi.2,k3];exact fun e=>(by cases e)⟩,by rw[upd_ne hi.1,k1];exact fun _ e=>(by cases e),fun _ e=>absurd e (by rw[Rgs.upd_self];decide)⟩
theorem ChS.asg(h:ChS B c1 c2 ca i1 i2 t1 t2 t3 u1 u2 E1 E2 L1 L2 A n c l0 l1 l2 v3 W0 live a w)(k1:live c1=true)(k2:live c2=true)(hi:ca≠c1∧ca≠c2)(hd:t3≠t2)(hz:t3 < a.tmps.size):
  ∃ A' n' c',a.eval (.tmp t2)=.slice A' n' c'∧ChS B c1 c2 ca i1 i2 t1 t2 t3 u1 u2 E1 E2 L1 L2 A n c l0 l1 l2 v3 W0 (Rgs.upd live ca) (a.put (some t3) (.slice A' n' c')) w:=by
 obtain⟨A',n',c',q1,q2,q3,_⟩:=h.s2 k2;refine⟨A',n',c',q1,h.kp,fun e=>absurd e (by rw[Rgs.upd_self];decide),by rw[upd_ne hi.1,k1];exact fun e=>(by cases e),by rw[upd_ne hi.1,upd_ne hi.2,k2];exact fun _ e=>(by cases e),fun _=>⟨A',n',c',by rw[Reg.eval_other _ _ _ _ hd];exact q1,q2,q3,fun _=>Reg.eval_same _ _ _ hz⟩,by rw[upd_ne hi.1,k1];exact fun _ e=>(by cases e),by rw[upd_ne hi.2,k2];exact fun _ e=>(by cases e)⟩
theorem ChS.fin(h:ChS B c1 c2 ca i1 i2 t1 t2 t3 u1 u2 E1 E2 L1 L2 A n c l0 l1 l2 v3 W0 live a w)(k2:live c2=true)(k3:live ca=true):∃ A' n' c',a.eval (.tmp t3)=.slice A' n' c'∧Own w B A' n' c' l2∧Grew A A' W0 w:=by
 obtain⟨A',n',c',_,q2,q3,q4⟩:=h.s2 k2;exact⟨A',n',c',q4 k3,q2,⟨h.kp.os,h.kp.tape,h.kp.output,h.kp.size,fun k hk h1=>h.kp.block k hk fun e=>h1 e.symm⟩,q3⟩
end
theorem flat_take{α:Type}{f:α→List Value}{s:Nat}(hf:∀ x,(f x).length=s)(l:List α)(k:Nat):(l.take k).flatMap f=(l.flatMap f).take (k*s):=by
 induction l generalizing k with
 | nil=>simp
 | cons x l ih =>
  cases k with
  | zero=>simp
  | succ k =>
   rw[List.take_succ_cons,List.flatMap_cons,List.flatMap_cons,ih,List.take_append,hf,Nat.succ_mul,List.take_of_length_le (l:=f x) (by rw[hf];omega)];congr 2;omega
theorem RdV.take{w:World}{B:Nat}{A:Option Addr}{l:List Value}(h:RdV w B A l)(k:Nat):RdV w B A (l.take k):=fun hl=>by
 obtain⟨ad,e,hb,hc⟩:=h (by rw[List.length_take] at hl;omega)
 refine⟨ad,e,hb,fun j v hj=>hc j v ?_⟩
 rw[List.getElem?_take] at hj
 split at hj
 ·exact hj
 ·cases hj
theorem RdB.take{α:Type}{f:α→List Value}{s:Nat}{w:World}{B n k:Nat}{A:Option Addr}{l:List α}(h:RdB f w B A n l)(hf:∀ x,(f x).length=s)(hk:k≤n):RdB f w B A k (l.take k) :=
 ⟨by rw[List.length_take,h.len];omega,by rw[flat_take hf];exact h.rd.take _⟩
def fewX(x:Cf):Cf:=⟨x.A1,x.A2,x.A3,min x.n1 8,min x.n2 12,min x.n3 5,x.c1,x.c2,x.c3,x.P.take (min x.n1 8),x.C.take (min x.n2 12),x.T.take (min x.n3 5)⟩
theorem CfR.few{w:World}{x:Cf}(h:CfR w x):CfR w (fewX x):=by
 have k1:=h.k1;have k2:=h.k2;have k3:=h.k3;have m1:=h.m1;have m2:=h.m2;have m3:=h.m3;have z:=h.z;exact⟨h.pp.take pcq_len (Nat.min_le_left _ _),h.ch.take cc_len (Nat.min_le_left _ _),h.tb.take tcn_len (Nat.min_le_left _ _),fun y hy=>h.pt y (List.mem_of_mem_take hy),fun y hy=>h.tt y (List.mem_of_mem_take hy),by show min x.n1 8≤x.c1;omega,by show min x.n2 12≤x.c2;omega,by show min x.n3 5≤x.c3;omega,by show min x.n1 8≤_;omega,by show min x.n2 12≤_;omega,by show min x.n3 5≤_;omega,by have:=z.1;show min x.n1 8*104≤_;omega,by have:=z.2.1;show min x.n2 12*48≤_;omega,by have:=z.2.2.1;show min x.n3 5*24≤_;omega,fun y hy=>z.2.2.2.1 y (List.mem_of_mem_take hy),fun y hy=>z.2.2.2.2 y (List.mem_of_mem_take hy)⟩
end Go.Proofs.YtdkngfdnfekgfaaGreat
