import Derived.Test.YtdkngfdnfekgfaaGreatLot40
import Derived.LoopTactic
set_option linter.unusedSimpArgs false
set_option linter.unusedVariables false
namespace Go.Proofs.YtdkngfdnfekgfaaGreat
open Go.RowKit Tab
theorem flat_inj:∀(a b:F) (s t:List Nd),a.ok→b.ok→a.cnt=b.cnt→a.flat++s=b.flat++t→a=b∧s=t
 | .nil,.nil,s,t,_,_,_,h=>⟨rfl,by simpa [F.flat] using h⟩
 | .nil,.cons _ _ _,_,_,_,_,hc,_=>by simp[F.cnt] at hc
 | .cons _ _ _,.nil,_,_,_,_,hc,_=>by simp[F.cnt] at hc
 | .cons x k r,.cons y k' r',s,t,ha,hb,hc,h=>by
  simp only[F.flat,List.cons_append,List.cons.injEq,List.append_assoc] at h
  obtain⟨rfl,h⟩:=h
  obtain⟨_,hk,hkok,hrok⟩:=ha
  obtain⟨_,hk',hkok',hrok'⟩:=hb
  obtain⟨rfl,h2⟩:=flat_inj k k' _ _ hkok hkok' (by rw[hk,hk']) h
  obtain⟨rfl,h3⟩:=flat_inj r r' _ _ hrok hrok' (by simp[F.cnt] at hc;exact hc) h2
  exact⟨rfl,h3⟩
theorem ofF_tree{x:Nd}{k:F}(hok:(F.cons x k .nil).ok):ofF (x::k.flat)=(ofz (x::k.flat).length (k.dep+1) (one x k.lvs),tidy (one x k.lvs)):=by
 obtain⟨y,k',hok',hl,e⟩:=ofF_whole (tree_whole hok);simp only[List.cons.injEq] at hl;obtain⟨rfl,hl⟩:=hl;obtain⟨rfl,_⟩:=flat_inj k k' [] [] hok.2.2.1 hok'.2.2.1 (by rw[hok.2.1,hok'.2.1]) (by rw[hl]);exact e
theorem nmL_name:∀ i,i < 4→nameF (nmL i)=true:=fun i hi=>by
 rcases(by omega:i=0∨i=1∨i=2∨i=3) with rfl | rfl | rfl | rfl <;> kernel_rfl
theorem nmL_ne:∀ i j,i < 4→j < 4→i≠j→decide (nmL i=nmL j)=false:=fun i j hi hj h=>by
 rcases(by omega:i=0∨i=1∨i=2∨i=3) with rfl | rfl | rfl | rfl <;> rcases(by omega:j=0∨j=1∨j=2∨j=3) with rfl | rfl | rfl | rfl <;> first | (exact absurd rfl h) | kernel_rfl
theorem heal_hl{x:PtV}(h:HealP x):∀ j,j < 5→hlF (hv5 x j)=true:=fun j hj=>by
 obtain⟨h0,h1,h2,h3,h4⟩:=h
 unfold hlF
 simp only[Bool.and_eq_true,decide_eq_true_eq]
 rcases(by omega:j=0∨j=1∨j=2∨j=3∨j=4) with rfl | rfl | rfl | rfl | rfl
 ·exact h0
 ·exact h1
 ·exact h2
 ·exact h3
 ·exact h4
theorem rt_right{n1:Nat}{P:List PtV}{C:List ChV}{T:List TbV}{w:World}(h:RtW n1 P C T w)(hl:P.length=n1)(q1:1≤n1)(q2:n1≤4)(q3:C.length≤3)(q4:1≤T.length)(q5:T.length≤2)
  (hT:∀ t∈T,TbAt w w.heap.size t∧Frame t) (hlo:∀ x∈C,∀ t∈T,chLate (wordsL (rowF t)) x=false) (hso:∀ k x,P[k]? = some x→∀ t∈T,ptShort (wordsL (rowF t)) k x=false) :
  (whereF (P.map (pq w)) C (T.map ndT)).1=0:=by
 rcases h.dn with hz | hz
 case inr=>exact hz
 have hlen:(P.map (pq w)).length=n1:=by rw[List.length_map,hl]
 rw[whereF_ok]
 ·unfold sizesB
  rw[hlen,List.length_map]
  omega
 ·intro j hj
  rw[hlen] at hj
  obtain⟨x,hx⟩:∃ x,P[j]? = some x:=⟨_,List.getElem?_eq_getElem (by omega)⟩
  obtain⟨g1,g2,g3,g4⟩:=h.nm j x hx
  have hpx:(P.map (pq w))[j]? = some (pq w x):=by rw[List.getElem?_map,hx];rfl
  have hbx:=hz x (List.mem_of_getElem? hx)
  have hpt:=h.pt x (List.mem_of_getElem? hx)
  rw[ptE_end hpx (by show nameF x.name=true;rw[g1];exact nmL_name j (by omega)) fun k y hk hy=>by
   rw[List.getElem?_map] at hy
   cases hpk:P[k]? with
   | none=>rw[hpk] at hy;cases hy
   | some z =>
    rw[hpk] at hy
    injection hy with hy
    subst hy
    show decide (z.name=x.name)=false
    rw[(h.nm k z hpk).1,g1]
    exact nmL_ne k j (by omega) (by omega) (by omega)]
  have e:partF (pq w x).1 (pq w x).2=true:=by
   show partF x (prL w x.pa x.pn)=true
   rw[partF_end g3.1 (by omega) (fun j q hq=>List.all_eq_true.1 (prL_ok hpt.procs) q (List.mem_of_getElem? hq)) (heal_hl g2),hbx.1,hbx.2]
   rfl
  rw[if_pos e]
 ·intro j hj
  obtain⟨x,hx⟩:∃ x,C[j]? = some x:=⟨_,List.getElem?_eq_getElem hj⟩
  rw[chE_at hx,hlen]
  have hc:=h.ch x (List.mem_of_getElem? hx)
  have e:chanF x (n1:Int)=true:=by
   obtain⟨⟨a1,a2,a3,a4,_,_⟩,⟨a5,a6⟩,a7,a8⟩:=hc
   unfold chanF
   rw[decide_eq_true a1,decide_eq_true a2,decide_eq_true a3,decide_eq_true a4,decide_eq_true a5,decide_eq_true a6,decide_eq_true a7]
   cases hq:x.queue with
   | true =>
    rw[hq] at a8
    rw[decide_eq_true (if_pos rfl▸a8).1,decide_eq_true (if_pos rfl▸a8).2]
    rfl
   | false =>
    rw[hq] at a8
    have a9:x.cap=0:=a8
    rw[a9]
    rfl
  rw[if_pos e]
 ·intro j hj
  rw[List.length_map] at hj
  obtain⟨t,ht⟩:∃ t,T[j]? = some t:=⟨_,List.getElem?_eq_getElem hj⟩
  have htm:=List.mem_of_getElem? ht
  obtain⟨hta,hfr⟩:=hT t htm
  rw[tbE_at (by rw[List.getElem?_map,ht];rfl)]
  show tbW (P.map (pq w)) C (t.x::t.k.flat)=0
  unfold tbW
  rw[ofF_tree hta.ok]
  have hn:(t.x::t.k.flat).length=t.n:=hta.rd.len
  dsimp only
  rw[hn,hfr.1,if_pos rfl,hlen]
  have ha:(tidy (one t.x t.k.lvs)).any (fun r=>decide ((n1:Int)≤r.p))=false:=by
   rw[List.any_eq_false]
   intro r hr
   have hq:=h.tq t htm
   have h1:∀ r∈one t.x t.k.lvs,r.p < (n1:Int):=one_parts (by omega) (hq t.x (by simp)).2 (lvs_parts (by omega) t.k fun y hy=>(hq y (by simp[hy])).2)
   have h2:=tidy_part hr
   obtain⟨r',hr',e⟩:=h2
   have:=h1 r' hr'
   simp
   omega
  rw[ha,if_neg (by decide)]
  have hmap:(P.map (pq w)).map Prod.fst=P:=by
   rw[List.map_map]
   exact List.map_id P
  rw[hmap]
  exact holdsF_ok (by
   rw[List.any_eq_false]
   intro x hx
   have:=hlo x hx t htm
   rw[show tidy (one t.x t.k.lvs)=rowF t from rfl,this]
   decide) (shortF_iff.2 fun k x hx=>hso k x hx t htm)
structure TapeR:Prop where
 cfg:∀(A:Option Addr) (n cap:Nat) (f:Nat→Int) (w:World),RdC w w.heap.size A n (fun j=>.int .i64 (f j))→n≤140737488351232 →
  Calls Tryz.prog 8 #[.pointer (some ⟨w.heap.size,0,none⟩)] (w.alloc (.cells #[.slice A n cap,.int .i64 0] 31)) (fun e w'=>∃ y,e=.returned (cfv y)∧CfR w' y∧SmX 16 y∧(whF y).1=0∧Below w.heap.size w w')
theorem tape_rightx(A:Option Addr)(n cap:Nat)(f:Nat→Int)(w:World)(h:RdC w w.heap.size A n (fun j=>.int .i64 (f j)))(hn:n≤140737488351232):
  Calls Tryz.prog 8 #[.pointer (some ⟨w.heap.size,0,none⟩)] (w.alloc (.cells #[.slice A n cap,.int .i64 0] 31)) (fun e w'=>∃ y,e=.returned (cfv y)∧CfR w' y∧SmX 16 y∧(whF y).1=0∧(y.n2≤3∧y.n3≤2)∧(∀(i:Nat) (x:Pq),y.P[i]? = some x→x.1.name=nmL i)∧(∀ x∈y.C,0≤x.max∧x.max≤4294967295)∧Below w.heap.size w w'):=by
 refine(config_anyr w.heap.size w.heap.size A n cap f hn 0 _ (tape_boxed A n cap f w h)).mono ?_;rintro e w1⟨A1,A2,A3,n1,n2,n3,c1,c2,c3,P,C,T,at',rfl,hCf,q1,q2,q3,q4,q5,hco,hT,hTt,q6,q7,q8,_,G1,hper,hlo,hso,_,_,_,_,_,hrt⟩;obtain⟨hP,hC⟩:=hCf;have hPl:P.length=n1:=hP.len;have hCl:C.length=n2:=hC.len;have hTl:T.length=n3:=hT.len;have hnm:∀ x∈P,(1≤x.pn∧x.pn≤2)∧x.pn≤x.pc:=fun x hx=>by
  obtain⟨i,hi⟩:=List.getElem?_of_mem hx;exact(hrt.nm i x hi).2.2
 have hfew:∀ t∈T,t.n≤128:=fun t ht=>(ofz_ok (hTt t ht).2.1).1;refine⟨⟨A1,A2,A3,n1,n2,n3,c1,c2,c3,P.map (pq w1),C,T.map ndT⟩,rfl,⟨hP.pq w1,hC,hT.ndt,fun y hy=>?_,fun y hy=>?_,q4,q5,q8,by show n1≤_;omega,by show n2≤_;omega,by show n3≤_;omega,by show n1*104≤_;omega,by show n2*48≤_;omega,by show n3*24≤_;omega,fun y hy=>?_,fun y hy=>?_⟩,⟨q1,by show n1≤_;omega,by show n2≤_;omega,by show n3≤_;omega,fun y hy=>?_,fun y hy=>?_⟩,?_,⟨by show n2≤3;omega,by show n3≤2;omega⟩,fun i x hx=>?_,fun x hx=>(hco x hx).2.2.2.2,gb_boxed G1⟩
 ·obtain⟨x,hx,rfl⟩:=List.mem_map.1 hy;have h1:=hnm x hx;exact⟨(hrt.pt x hx).ax,h1.2,by show x.pn≤_;omega⟩
 ·obtain⟨t,ht,rfl⟩:=List.mem_map.1 hy;exact(hTt t ht).1.nd
 ·obtain⟨x,hx,rfl⟩:=List.mem_map.1 hy;have h1:=hnm x hx;show x.pn*16≤_;omega
 ·obtain⟨t,ht,rfl⟩:=List.mem_map.1 hy;have h1:=hfew t ht;show t.n*24≤_;omega
 ·obtain⟨x,hx,rfl⟩:=List.mem_map.1 hy;have h1:=hnm x hx;show x.pn≤16;omega
 ·obtain⟨t,ht,rfl⟩:=List.mem_map.1 hy;have h1:=hfew t ht;show t.n≤_;omega
 ·have h3:C.length≤3:=by omega
  have h4:1≤T.length:=by omega
  have h5:T.length≤2:=by omega
  exact rt_right hrt hPl q1 q2 h3 h4 h5 hTt hlo hso
 have hx:(P.map (pq w1))[i]? = some x:=hx;rw[List.getElem?_map] at hx;obtain⟨z,hz,rfl⟩:=Option.map_eq_some_iff.1 hx;exact(hrt.nm i z hz).1
end Go.Proofs.YtdkngfdnfekgfaaGreat
