import Derived.Test.YtdkngfdnfekgfaaGreatLot24
import Derived.Test.YtdkngfdnfekgfaaGreatLot26
import Derived.Laws.StructEq
import Derived.Deep.RegionWith
set_option maxHeartbeats 4000000
set_option maxRecDepth 100000
set_option linter.unusedSimpArgs false
set_option linter.unusedVariables false
namespace Go.Proofs.YtdkngfdnfekgfaaGreat
open Go.RowKit Tab
def heq5(a0 a1 a2 a3 a4 b0 b1 b2 b3 b4:Int):Bool:=decide (a0=b0∧a1=b1∧a2=b2∧a3=b3∧a4=b4)
theorem arr5_eq(a0 a1 a2 a3 a4 b0 b1 b2 b3 b4:Int)(W:World):(Op.equalIn 10000 55 (.agg #[.int .i64 a0,.int .i64 a1,.int .i64 a2,.int .i64 a3,.int .i64 a4]) (.agg #[.int .i64 b0,.int .i64 b1,.int .i64 b2,.int .i64 b3,.int .i64 b4])).run Tryz.prog W =
  .ok (heq5 a0 a1 a2 a3 a4 b0 b1 b2 b3 b4) W:=by
 have u3:=Tryz.underlying3;have a3':=Tryz.isAgg3;have z3:=Tryz.sizeOf3;rw[show (10000:Nat)=9999+1 from rfl,Op.equalIn];simp only[Sem.run_bind,run_underlying Tryz.underlying55,Result.andThen_ok];simp only[Std.Legacy.Range.forIn_eq_forIn_range',Std.Legacy.Range.size,Nat.sub_zero,Nat.add_sub_cancel,Nat.div_one,List.range'_succ,List.range'_zero,List.forIn_cons,List.forIn_nil];unfold heq5;go_simp;by_cases h0:a0=b0
 ·by_cases h1:a1=b1
  ·by_cases h2:a2=b2
   ·by_cases h3:a3=b3
    ·by_cases h4:a4=b4 <;> simp[h0,h1,h2,h3,h4]
    simp[h0,h1,h2,h3]
   simp[h0,h1,h2]
  simp[h0,h1]
 simp[h0]
theorem arr5_neq(a0 a1 a2 a3 a4 b0 b1 b2 b3 b4:Int)(W:World):(binOp .neq 55 (.agg #[.int .i64 a0,.int .i64 a1,.int .i64 a2,.int .i64 a3,.int .i64 a4]) (.agg #[.int .i64 b0,.int .i64 b1,.int .i64 b2,.int .i64 b3,.int .i64 b4])).run Tryz.prog W =
  .ok (.bool (!(heq5 a0 a1 a2 a3 a4 b0 b1 b2 b3 b4))) W:=by
 rw[run_neq_struct,arr5_eq];rfl
theorem pc_neqs(a b c d:Int)(W:World):(binOp .neq 59 (.agg #[.int .i64 a,.int .i64 b]) (.agg #[.int .i64 c,.int .i64 d])).run Tryz.prog W=.ok (.bool (!(decide ((a,b)=(c,d))))) W:=by
 by_cases h1:a=c
 ·by_cases h2:b=d
  ·subst h1;subst h2;simp[run_neq_struct,go_sem]
  subst h1;simp[run_neq_struct,go_sem,h2]
 simp[run_neq_struct,go_sem,h1]
def SameP(x y:Pq):Prop:=x.1.name=y.1.name∧x.1.bud=y.1.bud∧x.1.per=y.1.per∧x.1.sched=y.1.sched∧x.1.stop=y.1.stop∧(x.1.h0=y.1.h0∧x.1.h1=y.1.h1∧x.1.h2=y.1.h2∧x.1.h3=y.1.h3∧x.1.h4=y.1.h4)∧x.2=y.2
instance (x y:Pq):Decidable (SameP x y):=by unfold SameP;infer_instance
theorem rsamep_any(x y:Pq)(w:World)(hx:RdB prc w w.heap.size x.1.pa x.1.pn x.2)(hy:RdB prc w w.heap.size y.1.pa y.1.pn y.2)(hn:x.1.pn≤140737488351232):
  Calls Tryz.prog 64 #[pv x.1,pv y.1] w (Ans (.bool (decide (SameP x y))) w):=by
 have HNO:Hid (¬ SameP x y→decide (SameP x y)=false):=hid fun h=>decide_eq_false h;have HYES:Hid (SameP x y→decide (SameP x y)=true):=hid fun h=>decide_eq_true h;generalize decide (SameP x y)=v at HNO HYES ⊢;obtain⟨⟨nm,bu,pe,sc,st,pa,pn,pc,a0,a1,a2,a3,a4⟩,L⟩:=x;obtain⟨⟨nm2,bu2,pe2,sc2,st2,pa2,pn2,pc2,b0,b1,b2,b3,b4⟩,M⟩:=y;unfold SameP at HNO HYES;dsimp only at hx hy HNO HYES hn ⊢;have g0:=bl1 w (.cells #[.string nm,.int .i64 bu,.int .i64 pe,.bool sc,.bool st,.slice pa pn pc,.int .i64 a0,.int .i64 a1,.int .i64 a2,.int .i64 a3,.int .i64 a4] 57);have g1:=g0.trans ((bl1 _ (.cells #[.string nm2,.int .i64 bu2,.int .i64 pe2,.bool sc2,.bool st2,.slice pa2 pn2 pc2,.int .i64 b0,.int .i64 b1,.int .i64 b2,.int .i64 b3,.int .i64 b4] 57)).mono g0.size);have HB:=hid g1;have HX:=hid hx;have HY:=hid hy;clear g0 g1 hx hy;go_enter Tryz.func64,Tryz.ntmps64;by_cases k0:nm=nm2
 case neg =>
  have hq:(nm.toList == nm2.toList)=false:=bs_eq_of (decide_eq_false k0);have HV:=hid (HNO.out fun h=>k0 h.1);clear HNO HYES k0;go_wp2_with fail;go_ret;exact Ans.mk (by rw[HV.out];rfl) HB.out
 subst k0;by_cases k1:bu=bu2
 case neg =>
  have hq1:(bu != bu2)=true:=bne_iff_ne.2 k1;have HV:=hid (HNO.out fun h=>k1 h.2.1);clear HNO HYES k1;go_wp2_with fail;go_ret;exact Ans.mk (by rw[HV.out];rfl) HB.out
 subst k1;by_cases k2:pe=pe2
 case neg =>
  have hq2:(pe != pe2)=true:=bne_iff_ne.2 k2;have HV:=hid (HNO.out fun h=>k2 h.2.2.1);clear HNO HYES k2;go_wp2_with fail;go_ret;exact Ans.mk (by rw[HV.out];rfl) HB.out
 subst k2;by_cases k3:sc=sc2
 case neg =>
  have HV:=hid (HNO.out fun h=>k3 h.2.2.2.1);clear HNO HYES;cases sc <;> cases sc2 <;> (try (exact absurd rfl k3)) <;> go_wp2_with fail
  all_goals
   go_ret;exact Ans.mk (by rw[HV.out];rfl) HB.out
 subst k3;by_cases k4:st=st2
 case neg =>
  have HV:=hid (HNO.out fun h=>k4 h.2.2.2.2.1);clear HNO HYES;cases st <;> cases st2 <;> (try (exact absurd rfl k4)) <;> cases sc <;> go_wp2_with fail
  all_goals
   go_ret;exact Ans.mk (by rw[HV.out];rfl) HB.out
 subst k4;have hha:=fun W=>arr5_neq a0 a1 a2 a3 a4 b0 b1 b2 b3 b4 W;by_cases k5:a0=b0∧a1=b1∧a2=b2∧a3=b3∧a4=b4
 case neg =>
  rw[show heq5 a0 a1 a2 a3 a4 b0 b1 b2 b3 b4=false from decide_eq_false k5] at hha;have hha:∀ W,(binOp .neq 55 (.agg #[.int .i64 a0,.int .i64 a1,.int .i64 a2,.int .i64 a3,.int .i64 a4]) (.agg #[.int .i64 b0,.int .i64 b1,.int .i64 b2,.int .i64 b3,.int .i64 b4])).run Tryz.prog W=.ok (.bool true) W:=hha;have HV:=hid (HNO.out fun h=>k5 h.2.2.2.2.2.1);clear HNO HYES k5;go_wp2_with fail;go_ret;exact Ans.mk (by rw[HV.out];rfl) HB.out
 rw[show heq5 a0 a1 a2 a3 a4 b0 b1 b2 b3 b4=true from decide_eq_true k5] at hha;have hha:∀ W,(binOp .neq 55 (.agg #[.int .i64 a0,.int .i64 a1,.int .i64 a2,.int .i64 a3,.int .i64 a4]) (.agg #[.int .i64 b0,.int .i64 b1,.int .i64 b2,.int .i64 b3,.int .i64 b4])).run Tryz.prog W=.ok (.bool false) W:=hha;have HYES2:=hid fun h=>HYES.out ⟨rfl,rfl,rfl,rfl,rfl,k5,h⟩;have HNO2:Hid (¬ L=M→v=false):=hid fun h=>HNO.out fun k=>h k.2.2.2.2.2.2;clear k5 HNO HYES;by_cases k6:pn=pn2
 case neg =>
  have hq6:((pn:Int) != (pn2:Int))=true:=bne_iff_ne.2 (by omega);have HV:=hid (HNO2.out fun h=>k6 (by rw[← HX.out.len,← HY.out.len,h]));clear HNO2 HYES2;go_wp2_with fail;go_ret;exact Ans.mk (by rw[HV.out];rfl) HB.out
 subst k6;go_wp2_with fail;clear hha;have n5:((w.alloc (.cells #[.string nm,.int .i64 bu,.int .i64 pe,.bool sc,.bool st,.slice pa pn pc,.int .i64 a0,.int .i64 a1,.int .i64 a2,.int .i64 a3,.int .i64 a4] 57)).alloc (.cells #[.string nm,.int .i64 bu,.int .i64 pe,.bool sc,.bool st,.slice pa2 pn pc2,.int .i64 b0,.int .i64 b1,.int .i64 b2,.int .i64 b3,.int .i64 b4] 57)).cell? ⟨w.heap.size,5,none⟩=some (.slice pa pn pc):=by
  rw[(bl1 _ _).cell (by simp)];exact World.cell?_alloc_mark _ _ _ _ _
 have n5':((w.alloc (.cells #[.string nm,.int .i64 bu,.int .i64 pe,.bool sc,.bool st,.slice pa pn pc,.int .i64 a0,.int .i64 a1,.int .i64 a2,.int .i64 a3,.int .i64 a4] 57)).alloc (.cells #[.string nm,.int .i64 bu,.int .i64 pe,.bool sc,.bool st,.slice pa2 pn pc2,.int .i64 b0,.int .i64 b1,.int .i64 b2,.int .i64 b3,.int .i64 b4] 57)).cell? ⟨w.heap.size+1,5,none⟩=some (.slice pa2 pn pc2):=by
  have e:(w.alloc (.cells #[.string nm,.int .i64 bu,.int .i64 pe,.bool sc,.bool st,.slice pa pn pc,.int .i64 a0,.int .i64 a1,.int .i64 a2,.int .i64 a3,.int .i64 a4] 57)).heap.size=w.heap.size+1:=by simp
  rw[← e];exact World.cell?_alloc_mark _ _ _ _ _
 have hgs:w.heap.size+1 < ((w.alloc (.cells #[.string nm,.int .i64 bu,.int .i64 pe,.bool sc,.bool st,.slice pa pn pc,.int .i64 a0,.int .i64 a1,.int .i64 a2,.int .i64 a3,.int .i64 a4] 57)).alloc (.cells #[.string nm,.int .i64 bu,.int .i64 pe,.bool sc,.bool st,.slice pa2 pn pc2,.int .i64 b0,.int .i64 b1,.int .i64 b2,.int .i64 b3,.int .i64 b4] 57)).heap.size:=by simp
 generalize (w.alloc (.cells #[.string nm,.int .i64 bu,.int .i64 pe,.bool sc,.bool st,.slice pa pn pc,.int .i64 a0,.int .i64 a1,.int .i64 a2,.int .i64 a3,.int .i64 a4] 57)).alloc (.cells #[.string nm,.int .i64 bu,.int .i64 pe,.bool sc,.bool st,.slice pa2 pn pc2,.int .i64 b0,.int .i64 b1,.int .i64 b2,.int .i64 b3,.int .i64 b4] 57)=W at HB n5 n5' hgs ⊢;obtain⟨g,hg⟩:∃ g,g=w.heap.size:=⟨_,rfl⟩;rw[← hg] at n5 n5' hgs ⊢;have HG:=hid hg;have N5:=hid n5;have N5':=hid n5';clear hg n5 n5';obtain⟨g2,hg2⟩:∃ g2,g2=g+1:=⟨_,rfl⟩;rw[← hg2] at N5' hgs ⊢;have HG2:=hid hg2;have hgl:g < W.heap.size:=by omega
 clear hg2;go_loopw [5,58] (fun _ s wr=>∃ i:Nat,i≤pn∧s=.int .i64 i∧(∀ k,k < i→L[k]? = M[k]?)∧Below W.heap.size W wr) (fun _ s _=>pn - (intOf s).toNat)
 case atStart=>exact⟨0,by omega,rfl,fun k hk=>by omega,Below.refl _ _⟩
 obtain⟨i,hi,rfl,hok,hb⟩:=hrel;have HOK:=hid hok;clear hok;have n5:=(hb.cell (p:=⟨g,5,none⟩) hgl).trans N5.out;have n5':=(hb.cell (p:=⟨g2,5,none⟩) hgs).trans N5'.out;have hbw:=HB.out.trans (hb.mono HB.out.size);by_cases hlt:i < pn
 ·obtain⟨ad,q,rfl,had,hx,c0,ck⟩:=(HX.out.on hbw).at_ prc_len (by omega) hlt;have c1:=ck 1 _ (by omega) rfl;have c0:=c0 _ rfl;obtain⟨ad2,q2,rfl,had2,hy,d0,dk⟩:=(HY.out.on hbw).at_ prc_len (by omega) hlt;have d1:=dk 1 _ (by omega) rfl;have d0:=d0 _ rfl;obtain⟨e,p⟩:=q;obtain⟨e2,p2⟩:=q2;dsimp only at c0 c1 d0 d1;have hne:=fun W=>pc_neqs e p e2 p2 W;by_cases hE:(e,p)=(e2,p2)
  ·rw[decide_eq_true hE] at hne;have hne:∀ W,(binOp .neq 59 (.agg #[.int .i64 e,.int .i64 p]) (.agg #[.int .i64 e2,.int .i64 p2])).run Tryz.prog W=.ok (.bool false) W:=hne;have HNX:Hid (∀ k,k < i+1→L[k]? = M[k]?):=hid (lt_more (p:=fun k=>L[k]? = M[k]?) HOK.out (by rw[hx,hy,hE]));have HBB:=hid hb;clear hE hx hy ck dk had had2 HOK hb hbw;go_wp2_with fail;go_quiet (fail);go_wp2_with fail;go_roundw
   case rel=>exact⟨i+1,by omega,by go_num,HNX.out,Below.drewN HBB.out nq⟩
   simp[intOf];omega
  rw[decide_eq_false hE] at hne;have hne:∀ W,(binOp .neq 59 (.agg #[.int .i64 e,.int .i64 p]) (.agg #[.int .i64 e2,.int .i64 p2])).run Tryz.prog W=.ok (.bool true) W:=hne;have HV:=hid (HNO2.out fun h=>hE (by rw[h,hy] at hx;injection hx with hx;exact hx.symm));have HBB:=hid hbw;clear hE hx hy ck dk had had2 HOK hb hbw HNO2 HYES2;go_wp2_with fail;go_quiet (fail);go_wp2_with fail;go_ret;exact Ans.mk (by rw[HV.out];rfl) (Below.drewN HBB.out nq)
 have hge:pn≤i:=by omega
 have HV:=hid (HYES2.out (List.ext_getElem? fun k=>by
  rcases Nat.lt_or_ge k i with h5 | h5
  ·exact HOK.out k h5
  rw[List.getElem?_eq_none (by rw[HX.out.len];omega),List.getElem?_eq_none (by rw[HY.out.len];omega)]))
 clear HOK HNO2 HYES2;go_wp2_with fail;go_ret;exact Ans.mk (by rw[HV.out];rfl) hbw
def chT(x:ChV):Int×Int×Bool×Int×Int×Int:=(x.from_,x.to_,x.queue,x.cap,x.max,x.late)
theorem chT_inj{x y:ChV}(h:chT x=chT y):x=y:=by
 obtain⟨a,b,c,d,e,f⟩:=x;obtain⟨a2,b2,c2,d2,e2,f2⟩:=y;unfold chT at h;simp at h;obtain⟨rfl,rfl,rfl,rfl,rfl,rfl⟩:=h;rfl
instance:DecidableEq ChV:=fun x y=>if h:chT x=chT y then isTrue (chT_inj h) else isFalse fun e=>h (by rw[e])
theorem ch_neqs(x y:ChV)(W:World):(binOp .neq 63 (cv x) (cv y)).run Tryz.prog W=.ok (.bool (!(decide (x=y)))) W:=by
 obtain⟨a,b,c,d,e,f⟩:=x;obtain⟨a2,b2,c2,d2,e2,f2⟩:=y;by_cases h1:a=a2
 ·by_cases h2:b=b2
  ·by_cases h3:c=c2
   ·by_cases h4:d=d2
    ·by_cases h5:e=e2
     ·by_cases h6:f=f2
      ·subst h1;subst h2;subst h3;subst h4;subst h5;subst h6;simp[run_neq_struct,go_sem]
      subst h1;subst h2;subst h3;subst h4;subst h5;simp[run_neq_struct,go_sem,h6]
     subst h1;subst h2;subst h3;subst h4;simp[run_neq_struct,go_sem,h5]
    subst h1;subst h2;subst h3;simp[run_neq_struct,go_sem,h4]
   subst h1;subst h2;simp[run_neq_struct,go_sem,h3]
  subst h1;simp[run_neq_struct,go_sem,h2]
 simp[run_neq_struct,go_sem,h1]
def SameB(P:List Pq)(C:List ChV)(P':List Pq)(C':List ChV):Prop:=P.length=P'.length∧(∀(i:Nat) (x y:Pq),P[i]? = some x→P'[i]? = some y→SameP x y)∧C=C'
def SameC(P:List Pq)(C:List ChV)(T:List NdT)(P':List Pq)(C':List ChV)(T':List NdT):Prop:=SameB P C P' C'∧T.length=T'.length∧(∀(i:Nat) (x y:NdT),T[i]? = some x→T'[i]? = some y→sameN x.l y.l=true)
open Classical in
noncomputable def butF(P:List Pq)(C:List ChV)(P':List Pq)(C':List ChV):Bool:=decide (SameB P C P' C')
open Classical in
noncomputable def sameF(P:List Pq)(C:List ChV)(T:List NdT)(P':List Pq)(C':List ChV)(T':List NdT):Bool:=decide (SameC P C T P' C' T')
theorem butF_yes{P:List Pq}{C:List ChV}{P':List Pq}{C':List ChV}(h:SameB P C P' C'):butF P C P' C'=true:=by unfold butF;classical exact decide_eq_true h
theorem butF_no{P:List Pq}{C:List ChV}{P':List Pq}{C':List ChV}(h:¬ SameB P C P' C'):butF P C P' C'=false:=by unfold butF;classical exact decide_eq_false h
theorem sameF_yes{P:List Pq}{C:List ChV}{T:List NdT}{P':List Pq}{C':List ChV}{T':List NdT}(h:SameC P C T P' C' T'):sameF P C T P' C' T'=true:=by unfold sameF;classical exact decide_eq_true h
theorem sameF_no{P:List Pq}{C:List ChV}{T:List NdT}{P':List Pq}{C':List ChV}{T':List NdT}(h:¬ SameC P C T P' C' T'):sameF P C T P' C' T'=false:=by unfold sameF;classical exact decide_eq_false h
theorem rbut_any(A1 A2 A3 E1 E2 E3:Option Addr)(n1 n2 n3 c1 c2 c3 m1 m2 m3 d1 d2 d3:Nat)(P P':List Pq)(C C':List ChV)(w:World)(hP:RdB pcq w w.heap.size A1 n1 P)(hC:RdB cc w w.heap.size A2 n2 C)(hP':RdB pcq w w.heap.size E1 m1 P')(hC':RdB cc w w.heap.size E2 m2 C')
  (hp:∀ x∈P,RdB prc w w.heap.size x.1.pa x.1.pn x.2∧x.1.pn≤140737488351232) (hp':∀ x∈P',RdB prc w w.heap.size x.1.pa x.1.pn x.2) (q1:n1≤140737488351232) (q2:n2≤140737488351232) :
  Calls Tryz.prog 37 #[.agg #[.slice A1 n1 c1,.slice A2 n2 c2,.slice A3 n3 c3],.agg #[.slice E1 m1 d1,.slice E2 m2 d2,.slice E3 m3 d3]] w (Ans (.bool (butF P C P' C')) w):=by
 have g0:=bl1 w (.cells #[.slice A1 n1 c1,.slice A2 n2 c2,.slice A3 n3 c3] 26)
 have g1:=g0.trans ((bl1 _ (.cells #[.slice E1 m1 d1,.slice E2 m2 d2,.slice E3 m3 d3] 26)).mono g0.size)
 have HNO:=hid (fun h=>butF_no h:¬ SameB P C P' C'→butF P C P' C'=false)
 have HYES:=hid (fun h=>butF_yes h:SameB P C P' C'→butF P C P' C'=true)
 generalize butF P C P' C'=v at HNO HYES ⊢
 have HB:=hid g1
 have HP:=hid hP
 have HC:=hid hC
 have HP':=hid hP'
 have HC':=hid hC'
 have HPT:=hid hp
 have HPT':=hid hp'
 clear g0 g1 hP hC hP' hC' hp hp'
 go_enter Tryz.func37,Tryz.ntmps37
 by_cases k1:n1=m1
 case neg =>
  have hq1:((n1:Int) != (m1:Int))=true:=bne_iff_ne.2 (by omega)
  have HV:=hid (HNO.out fun h=>k1 (by rw[← HP.out.len,← HP'.out.len];exact h.1))
  clear HNO HYES k1
  go_wp2_with fail
  go_ret
  exact Ans.mk (by rw[HV.out];rfl) HB.out
 by_cases k2:n2=m2
 case neg =>
  have hq1:((n2:Int) != (m2:Int))=true:=bne_iff_ne.2 (by omega)
  have HV:=hid (HNO.out fun h=>k2 (by rw[← HC.out.len,← HC'.out.len,h.2.2]))
  clear HNO HYES k2
  subst k1
  go_wp2_with fail
  go_ret
  exact Ans.mk (by rw[HV.out];rfl) HB.out
 subst k1 k2
 go_wp2_with fail
 have o0:((w.alloc (.cells #[.slice A1 n1 c1,.slice A2 n2 c2,.slice A3 n3 c3] 26)).alloc (.cells #[.slice E1 n1 d1,.slice E2 n2 d2,.slice E3 m3 d3] 26)).cell? ⟨w.heap.size,0,none⟩=some (.slice A1 n1 c1):=by
  rw[(bl1 _ _).cell (by simp)]
  exact World.cell?_alloc_mark _ _ _ _ _
 have o1:((w.alloc (.cells #[.slice A1 n1 c1,.slice A2 n2 c2,.slice A3 n3 c3] 26)).alloc (.cells #[.slice E1 n1 d1,.slice E2 n2 d2,.slice E3 m3 d3] 26)).cell? ⟨w.heap.size,1,none⟩=some (.slice A2 n2 c2):=by
  rw[(bl1 _ _).cell (by simp)]
  exact World.cell?_alloc_mark _ _ _ _ _
 have e:(w.alloc (.cells #[.slice A1 n1 c1,.slice A2 n2 c2,.slice A3 n3 c3] 26)).heap.size=w.heap.size+1:=by simp
 have p0:((w.alloc (.cells #[.slice A1 n1 c1,.slice A2 n2 c2,.slice A3 n3 c3] 26)).alloc (.cells #[.slice E1 n1 d1,.slice E2 n2 d2,.slice E3 m3 d3] 26)).cell? ⟨w.heap.size+1,0,none⟩=some (.slice E1 n1 d1):=by
  rw[← e]
  exact World.cell?_alloc_mark _ _ _ _ _
 have p1:((w.alloc (.cells #[.slice A1 n1 c1,.slice A2 n2 c2,.slice A3 n3 c3] 26)).alloc (.cells #[.slice E1 n1 d1,.slice E2 n2 d2,.slice E3 m3 d3] 26)).cell? ⟨w.heap.size+1,1,none⟩=some (.slice E2 n2 d2):=by
  rw[← e]
  exact World.cell?_alloc_mark _ _ _ _ _
 have hgs:w.heap.size+1 < ((w.alloc (.cells #[.slice A1 n1 c1,.slice A2 n2 c2,.slice A3 n3 c3] 26)).alloc (.cells #[.slice E1 n1 d1,.slice E2 n2 d2,.slice E3 m3 d3] 26)).heap.size:=by simp
 clear e
 generalize (w.alloc (.cells #[.slice A1 n1 c1,.slice A2 n2 c2,.slice A3 n3 c3] 26)).alloc (.cells #[.slice E1 n1 d1,.slice E2 n2 d2,.slice E3 m3 d3] 26)=W at HB o0 o1 p0 p1 hgs ⊢
 obtain⟨g,hg⟩:∃ g,g=w.heap.size:=⟨_,rfl⟩
 rw[← hg] at o0 o1 p0 p1 hgs ⊢
 have HG:=hid hg
 clear hg
 obtain⟨g2,hg2⟩:∃ g2,g2=g+1:=⟨_,rfl⟩
 rw[← hg2] at p0 p1 hgs ⊢
 have HG2:=hid hg2
 have hgl:g < W.heap.size:=by omega
 clear hg2
 have O0:=hid o0
 have O1:=hid o1
 have P0:=hid p0
 have P1:=hid p1
 have HM:=hid fun(W':World) (hb:Below W.heap.size W W') (o:Nat) (v:Value) (hv:W.cell? ⟨g,o,none⟩=some v)=>(hb.cell (p:=⟨g,o,none⟩) hgl).trans hv
 have HM2:=hid fun(W':World) (hb:Below W.heap.size W W') (o:Nat) (v:Value) (hv:W.cell? ⟨g2,o,none⟩=some v)=>(hb.cell (p:=⟨g2,o,none⟩) hgs).trans hv
 have HW:=hid fun(W':World) (hb:Below W.heap.size W W')=>HB.out.trans (hb.mono HB.out.size)
 clear o0 o1 p0 p1
 go_loopw [5,26] (fun _ s wr=>∃ i:Nat,i≤n1∧s=.int .i64 i∧(∀ k,k < i→∀ x y,P[k]? = some x→P'[k]? = some y→SameP x y)∧Below W.heap.size W wr) (fun _ s _=>n1 - (intOf s).toNat)
 case atStart=>exact⟨0,by omega,rfl,fun k hk=>by omega,Below.refl _ _⟩
 case round =>
  obtain⟨i,hi,rfl,hok,hb⟩:=hrel
  have HOK:=hid hok
  clear hok
  by_cases hlt:i < n1
  ·have m0:=HM.out wr hb 0 _ O0.out
   have m0':=HM2.out wr hb 0 _ P0.out
   obtain⟨ad,x,rfl,had,hx,c0,ck⟩:=(HP.out.on (HW.out _ hb)).at_ pcq_len (by omega) hlt
   have cs:∀ k v,0 < k→(pcl x.1)[k]? = some v→wr.cell? ⟨(ad.add (i*11)).block,(ad.add (i*11)).off+k,none⟩=some v:=ck
   have c1:=cs 1 _ (by omega) rfl
   have c2:=cs 2 _ (by omega) rfl
   have c3:=cs 3 _ (by omega) rfl
   have c4:=cs 4 _ (by omega) rfl
   have c5:=cs 5 _ (by omega) rfl
   have c6:=cs 6 _ (by omega) rfl
   have c7:=cs 7 _ (by omega) rfl
   have c8:=cs 8 _ (by omega) rfl
   have c9:=cs 9 _ (by omega) rfl
   have c10:=cs 10 _ (by omega) rfl
   have c0:=c0 _ rfl
   obtain⟨ad2,y,rfl,had2,hy,e0,ek⟩:=(HP'.out.on (HW.out _ hb)).at_ pcq_len (by omega) hlt
   have es:∀ k v,0 < k→(pcl y.1)[k]? = some v→wr.cell? ⟨(ad2.add (i*11)).block,(ad2.add (i*11)).off+k,none⟩=some v:=ek
   have e1:=es 1 _ (by omega) rfl
   have e2:=es 2 _ (by omega) rfl
   have e3:=es 3 _ (by omega) rfl
   have e4:=es 4 _ (by omega) rfl
   have e5:=es 5 _ (by omega) rfl
   have e6:=es 6 _ (by omega) rfl
   have e7:=es 7 _ (by omega) rfl
   have e8:=es 8 _ (by omega) rfl
   have e9:=es 9 _ (by omega) rfl
   have e10:=es 10 _ (by omega) rfl
   have e0:=e0 _ rfl
   have HPX:=HPT.out x (List.mem_of_getElem? hx)
   have HPY:=HPT'.out y (List.mem_of_getElem? hy)
   have HSP:=hid fun(W':World) (hb':Below w.heap.size w W')=>rsamep_any x y W' (HPX.1.on hb') (HPY.on hb') HPX.2
   have HNX:Hid (SameP x y→∀ k,k < i+1→∀ x y,P[k]? = some x→P'[k]? = some y→SameP x y):=hid fun h=>lt_more (p:=fun k=>∀ x y,P[k]? = some x→P'[k]? = some y→SameP x y) HOK.out fun x' y' hx' hy'=>by
    rw[hx] at hx'
    rw[hy] at hy'
    injection hx' with hx'
    injection hy' with hy'
    subst hx' hy'
    exact h
   have HBD:Hid (¬ SameP x y→v=false):=hid fun h=>HNO.out fun k=>h (k.2.1 i x y hx hy)
   obtain⟨⟨nm,bu,pe,sc,st,pa,pn,pc,h0,h1,h2,h3,h4⟩,L⟩:=x
   obtain⟨⟨nm2,bu2,pe2,sc2,st2,pa2,pn2,pc2,k0,k1,k2,k3,k4⟩,M⟩:=y
   dsimp only at c0 c1 c2 c3 c4 c5 c6 c7 c8 c9 c10 e0 e1 e2 e3 e4 e5 e6 e7 e8 e9 e10 HSP
   have HBW:=hid (HW.out _ hb)
   have HBB:=hid hb
   have HD:Hid (decide (SameP (⟨nm,bu,pe,sc,st,pa,pn,pc,h0,h1,h2,h3,h4⟩,L) (⟨nm2,bu2,pe2,sc2,st2,pa2,pn2,pc2,k0,k1,k2,k3,k4⟩,M))=true→SameP (⟨nm,bu,pe,sc,st,pa,pn,pc,h0,h1,h2,h3,h4⟩,L) (⟨nm2,bu2,pe2,sc2,st2,pa2,pn2,pc2,k0,k1,k2,k3,k4⟩,M)):=hid of_decide_eq_true
   have HD2:Hid (decide (SameP (⟨nm,bu,pe,sc,st,pa,pn,pc,h0,h1,h2,h3,h4⟩,L) (⟨nm2,bu2,pe2,sc2,st2,pa2,pn2,pc2,k0,k1,k2,k3,k4⟩,M))=false→¬ SameP (⟨nm,bu,pe,sc,st,pa,pn,pc,h0,h1,h2,h3,h4⟩,L) (⟨nm2,bu2,pe2,sc2,st2,pa2,pn2,pc2,k0,k1,k2,k3,k4⟩,M)):=hid of_decide_eq_false
   generalize decide (SameP (⟨nm,bu,pe,sc,st,pa,pn,pc,h0,h1,h2,h3,h4⟩,L) (⟨nm2,bu2,pe2,sc2,st2,pa2,pn2,pc2,k0,k1,k2,k3,k4⟩,M))=q at HSP HD HD2
   clear ck ek hx hy had had2 HPX HPY HOK cs es hb
   go_wp2_with fail
   go_region_with (go_at_call 64;refine(HSP.out _ (by first | exact HBW.out | exact HBW.out.drew | exact Below.drewN HBW.out _)).mono ?_;rintro e w5⟨rfl,hb5⟩)
   all_goals
    have hb5W:Below wr.heap.size wr w5:=⟨hb5.os,hb5.tape,hb5.output,hb5.size,hb5.block⟩
    have HB5:=hid hb5W
    clear hb5 hb5W
    cases q
    ·have HV:=hid (HBD.out (HD2.out rfl))
     clear HBD HNX HD HD2 HSP HNO HYES
     go_wp2_with fail
     go_ret
     exact Ans.mk (by rw[HV.out];rfl) (HBW.out.trans (HB5.out.mono HBW.out.size))
    ·have HNX2:=hid (HNX.out (HD.out rfl))
     clear HBD HNX HD HD2 HSP
     go_wp2_with fail
     go_roundw
     case rel=>exact⟨i+1,by omega,by go_num,HNX2.out,HBB.out.trans (HB5.out.mono HBB.out.size)⟩
     case measure=>simp[intOf];omega
  ·have hge:n1≤i:=by omega
   have m1:=HM.out wr hb 1 _ O1.out
   have HPS:Hid (∀(i:Nat) (x y:Pq),P[i]? = some x→P'[i]? = some y→SameP x y):=hid fun k x y hx hy=>HOK.out k (by have:=(List.getElem?_eq_some_iff.1 hx).1;have:=HP.out.len;omega) x y hx hy
   have HNO2:Hid (¬ C=C'→v=false):=hid fun h=>HNO.out fun k=>h k.2.2
   have HYES2:Hid (C=C'→v=true):=hid fun h=>HYES.out ⟨by rw[HP.out.len,HP'.out.len],HPS.out,h⟩
   clear HNO HYES HPS HOK
   go_wp2_with fail
   go_loopw [6,45] (fun _ s wr=>∃ i:Nat,i≤n2∧s=.int .i64 i∧(∀ k,k < i→C[k]? = C'[k]?)∧Below W.heap.size W wr) (fun _ s _=>n2 - (intOf s).toNat)
   case atStart=>exact⟨0,by omega,rfl,fun k hk=>by omega,hb⟩
   case round =>
    obtain⟨i,hi,rfl,hok,hb⟩:=hrel
    have HOK:=hid hok
    clear hok
    by_cases hlt:i < n2
    ·have m1:=HM.out wr hb 1 _ O1.out
     have m1':=HM2.out wr hb 1 _ P1.out
     obtain⟨ad,x,rfl,had,hx,c0,ck⟩:=(HC.out.on (HW.out _ hb)).at_ cc_len (by omega) hlt
     have c1:=ck 1 _ (by omega) rfl
     have c2:=ck 2 _ (by omega) rfl
     have c3:=ck 3 _ (by omega) rfl
     have c4:=ck 4 _ (by omega) rfl
     have c5:=ck 5 _ (by omega) rfl
     have c0:=c0 _ rfl
     obtain⟨ad2,y,rfl,had2,hy,e0,ek⟩:=(HC'.out.on (HW.out _ hb)).at_ cc_len (by omega) hlt
     have e1:=ek 1 _ (by omega) rfl
     have e2:=ek 2 _ (by omega) rfl
     have e3:=ek 3 _ (by omega) rfl
     have e4:=ek 4 _ (by omega) rfl
     have e5:=ek 5 _ (by omega) rfl
     have e0:=e0 _ rfl
     have hne:=fun W=>ch_neqs x y W
     have HNX:Hid (x=y→∀ k,k < i+1→C[k]? = C'[k]?):=hid fun h=>lt_more (p:=fun k=>C[k]? = C'[k]?) HOK.out (by rw[hx,hy,h])
     have HBD:Hid (¬ x=y→v=false):=hid fun h=>HNO2.out fun k=>h (by rw[k,hy] at hx;injection hx with hx;exact hx.symm)
     obtain⟨xf,xt,xq,xc,xm,xl⟩:=x
     obtain⟨yf,yt,yq,yc,ym,yl⟩:=y
     dsimp only at c0 c1 c2 c3 c4 c5 e0 e1 e2 e3 e4 e5 hne
     have HBB:=hid hb
     clear ck ek hx hy had had2 HOK hb
     by_cases hE:(⟨xf,xt,xq,xc,xm,xl⟩:ChV)=⟨yf,yt,yq,yc,ym,yl⟩
     ·rw[decide_eq_true hE] at hne
      have hne:∀ W,(binOp .neq 63 (.agg #[.int .i64 xf,.int .i64 xt,.bool xq,.int .i64 xc,.int .u32 xm,.int .i64 xl]) (.agg #[.int .i64 yf,.int .i64 yt,.bool yq,.int .i64 yc,.int .u32 ym,.int .i64 yl])).run Tryz.prog W=.ok (.bool false) W:=hne
      have HNX2:=hid (HNX.out hE)
      clear HNX HBD hE
      go_wp2_with fail
      go_quiet (fail)
      go_wp2_with fail
      go_roundw
      case rel=>exact⟨i+1,by omega,by go_num,HNX2.out,Below.drewN HBB.out nq⟩
      case measure=>simp[intOf];omega
     ·rw[decide_eq_false hE] at hne
      have hne:∀ W,(binOp .neq 63 (.agg #[.int .i64 xf,.int .i64 xt,.bool xq,.int .i64 xc,.int .u32 xm,.int .i64 xl]) (.agg #[.int .i64 yf,.int .i64 yt,.bool yq,.int .i64 yc,.int .u32 ym,.int .i64 yl])).run Tryz.prog W=.ok (.bool true) W:=hne
      have HV:=hid (HBD.out hE)
      have HBW:=hid (HW.out _ HBB.out)
      clear HNX HBD hE HNO2 HYES2
      go_wp2_with fail
      go_quiet (fail)
      go_wp2_with fail
      go_ret
      exact Ans.mk (by rw[HV.out];rfl) (Below.drewN HBW.out nq)
    ·have hge:n2≤i:=by omega
     have HV:=hid (HYES2.out (List.ext_getElem? fun k=>by
      rcases Nat.lt_or_ge k i with h5 | h5
      ·exact HOK.out k h5
      ·rw[List.getElem?_eq_none (by rw[HC.out.len];omega),List.getElem?_eq_none (by rw[HC'.out.len];omega)]))
     clear HOK HNO2 HYES2
     go_wp2_with fail
     go_ret
     exact Ans.mk (by rw[HV.out];rfl) (HW.out _ hb)
theorem Qui.one{P:Program}{f:FuncId}{args:Array Value}{w:World}{n:Nat}{v:Value}(h:Calls P f args (w.drewN n) (Qui v (w.drewN n))):Calls P f args (w.drewN n) fun e w''=>e=.returned v∧∃ m,w''=w.drewN m :=
 h.mono fun _ _ ⟨he,m,hm⟩=>⟨he,n+m,by rw[hm,World.drewN_drewN]⟩
theorem rsamec_any(A1 A2 A3 E1 E2 E3:Option Addr)(n1 n2 n3 c1 c2 c3 m1 m2 m3 d1 d2 d3:Nat)(P P':List Pq)(C C':List ChV)(T T':List NdT)(w:World)(hP:RdB pcq w w.heap.size A1 n1 P)(hC:RdB cc w w.heap.size A2 n2 C)(hT:RdB tcn w w.heap.size A3 n3 T)(hP':RdB pcq w w.heap.size E1 m1 P')(hC':RdB cc w w.heap.size E2 m2 C')(hT':RdB tcn w w.heap.size E3 m3 T')
  (hp:∀ x∈P,RdB prc w w.heap.size x.1.pa x.1.pn x.2∧x.1.pn≤140737488351232) (hp':∀ x∈P',RdB prc w w.heap.size x.1.pa x.1.pn x.2) (ht:∀ t∈T,NdAt w w.heap.size t) (ht':∀ t∈T',NdAt w w.heap.size t) (q1:n1≤140737488351232) (q2:n2≤140737488351232) (q3:n3≤140737488351232) :
  Calls Tryz.prog 19 #[.agg #[.slice A1 n1 c1,.slice A2 n2 c2,.slice A3 n3 c3],.agg #[.slice E1 m1 d1,.slice E2 m2 d2,.slice E3 m3 d3]] w (Ans (.bool (sameF P C T P' C' T')) w):=by
 have g0:=bl1 w (.cells #[.slice A1 n1 c1,.slice A2 n2 c2,.slice A3 n3 c3] 26)
 have g1:=g0.trans ((bl1 _ (.cells #[.slice E1 m1 d1,.slice E2 m2 d2,.slice E3 m3 d3] 26)).mono g0.size)
 have HNO:=hid (fun h=>sameF_no h:¬ SameC P C T P' C' T'→sameF P C T P' C' T'=false)
 have HYES:=hid (fun h=>sameF_yes h:SameC P C T P' C' T'→sameF P C T P' C' T'=true)
 generalize sameF P C T P' C' T'=v at HNO HYES ⊢
 have HB:=hid g1
 have HT:=hid hT
 have HT':=hid hT'
 have HTT:=hid ht
 have HTT':=hid ht'
 have HBU:=hid fun(W':World) (hb:Below w.heap.size w W')=>rbut_any A1 A2 A3 E1 E2 E3 n1 n2 n3 c1 c2 c3 m1 m2 m3 d1 d2 d3 P P' C C' W' (hP.on hb) (hC.on hb) (hP'.on hb) (hC'.on hb) (fun x hx=>⟨(hp x hx).1.on hb,(hp x hx).2⟩) (fun x hx=>(hp' x hx).on hb) q1 q2
 have HB1:Hid (butF P C P' C'=true→SameB P C P' C'):=hid fun h=>by
  unfold butF at h
  classical exact of_decide_eq_true h
 have HB2:Hid (butF P C P' C'=false→¬ SameB P C P' C'):=hid fun h=>by
  unfold butF at h
  classical exact of_decide_eq_false h
 generalize butF P C P' C'=q at HBU HB1 HB2
 clear g0 g1 hP hC hP' hC' hp hp' hT hT' ht ht'
 go_enter Tryz.func19,Tryz.ntmps19
 have o0:∀(k:Nat) (v:Value),(#[Value.slice A1 n1 c1,.slice A2 n2 c2,.slice A3 n3 c3]:Array Value)[k]? = some v→((w.alloc (.cells #[.slice A1 n1 c1,.slice A2 n2 c2,.slice A3 n3 c3] 26)).alloc (.cells #[.slice E1 m1 d1,.slice E2 m2 d2,.slice E3 m3 d3] 26)).cell? ⟨w.heap.size,k,none⟩=some v:=by
  intro k v hv
  rw[(bl1 _ _).cell (by simp)]
  exact(World.cell?_alloc_mark _ _ _ _ _).trans hv
 have e:(w.alloc (.cells #[.slice A1 n1 c1,.slice A2 n2 c2,.slice A3 n3 c3] 26)).heap.size=w.heap.size+1:=by simp
 have p0:∀(k:Nat) (v:Value),(#[Value.slice E1 m1 d1,.slice E2 m2 d2,.slice E3 m3 d3]:Array Value)[k]? = some v→((w.alloc (.cells #[.slice A1 n1 c1,.slice A2 n2 c2,.slice A3 n3 c3] 26)).alloc (.cells #[.slice E1 m1 d1,.slice E2 m2 d2,.slice E3 m3 d3] 26)).cell? ⟨w.heap.size+1,k,none⟩=some v:=by
  intro k v hv
  rw[← e]
  exact(World.cell?_alloc_mark _ _ _ _ _).trans hv
 have hgs:w.heap.size+1 < ((w.alloc (.cells #[.slice A1 n1 c1,.slice A2 n2 c2,.slice A3 n3 c3] 26)).alloc (.cells #[.slice E1 m1 d1,.slice E2 m2 d2,.slice E3 m3 d3] 26)).heap.size:=by simp
 clear e
 have O:=hid o0
 have P0:=hid p0
 clear o0 p0
 go_wp2_with fail
 refine(HBU.out _ HB.out).mono ?_
 rintro e w2⟨rfl,hb2⟩
 generalize (w.alloc (.cells #[.slice A1 n1 c1,.slice A2 n2 c2,.slice A3 n3 c3] 26)).alloc (.cells #[.slice E1 m1 d1,.slice E2 m2 d2,.slice E3 m3 d3] 26)=W at HB O P0 hgs hb2
 obtain⟨g,hg⟩:∃ g,g=w.heap.size:=⟨_,rfl⟩
 rw[← hg] at O P0 hgs ⊢
 have HG:=hid hg
 clear hg
 obtain⟨g2,hg2⟩:∃ g2,g2=g+1:=⟨_,rfl⟩
 rw[← hg2] at P0 hgs ⊢
 have HG2:=hid hg2
 have hgl:g < W.heap.size:=by omega
 clear hg2
 have HM:=hid fun(W':World) (hb:Below W.heap.size W W') (o:Nat) (v:Value) (hv:(#[Value.slice A1 n1 c1,.slice A2 n2 c2,.slice A3 n3 c3]:Array Value)[o]? = some v)=>(hb.cell (p:=⟨g,o,none⟩) hgl).trans (O.out o v hv)
 have HM2:=hid fun(W':World) (hb:Below W.heap.size W W') (o:Nat) (v:Value) (hv:(#[Value.slice E1 m1 d1,.slice E2 m2 d2,.slice E3 m3 d3]:Array Value)[o]? = some v)=>(hb.cell (p:=⟨g2,o,none⟩) hgs).trans (P0.out o v hv)
 have HW:=hid fun(W':World) (hb:Below W.heap.size W W')=>HB.out.trans (hb.mono HB.out.size)
 have H2:=hid hb2
 clear O P0 hb2
 cases q
 ·have HV:=hid (HNO.out fun h=>HB2.out rfl h.1)
  clear HNO HYES HB1 HB2 HBU
  go_wp2_with fail
  go_ret
  exact Ans.mk (by rw[HV.out];rfl) (HW.out _ H2.out)
 have HBB:=hid (HB1.out rfl)
 clear HB1 HB2 HBU
 have a2:=HM.out w2 H2.out 2 _ rfl
 have b2:=HM2.out w2 H2.out 2 _ rfl
 by_cases k1:n3=m3
 case neg =>
  have hq1:((n3:Int) != (m3:Int))=true:=bne_iff_ne.2 (by omega)
  have HV:=hid (HNO.out fun h=>k1 (by rw[← HT.out.len,← HT'.out.len];exact h.2.1))
  clear HNO HYES k1
  go_wp2_with fail
  go_ret
  exact Ans.mk (by rw[HV.out];rfl) (HW.out _ H2.out)
 subst k1
 go_wp2_with fail
 clear a2 b2
 go_loopw [5,22] (fun _ s wr=>∃ i:Nat,i≤n3∧s=.int .i64 i∧(∀ k,k < i→∀ x y,T[k]? = some x→T'[k]? = some y→sameN x.l y.l=true)∧Below W.heap.size W wr) (fun _ s _=>n3 - (intOf s).toNat)
 case atStart=>exact⟨0,by omega,rfl,fun k hk=>by omega,H2.out⟩
 case round =>
  obtain⟨i,hi,rfl,hok,hb⟩:=hrel
  have HOK:=hid hok
  clear hok
  by_cases hlt:i < n3
  ·have m0:=HM.out wr hb 2 _ rfl
   have m0':=HM2.out wr hb 2 _ rfl
   obtain⟨ad,x,rfl,had,hx,c0,ck⟩:=(HT.out.on (HW.out _ hb)).at_ tcn_len (by omega) hlt
   have c0:=c0 _ rfl
   obtain⟨ad2,y,rfl,had2,hy,e0,ek⟩:=(HT'.out.on (HW.out _ hb)).at_ tcn_len (by omega) hlt
   have e0:=e0 _ rfl
   rw[Nat.mul_one] at c0 e0
   have HPX:=HTT.out x (List.mem_of_getElem? hx)
   have HPY:=HTT'.out y (List.mem_of_getElem? hy)
   have HSP:=hid fun(W':World) (hb':Below w.heap.size w W')=>rnodes_any x.A y.A x.n y.n x.c y.c x.l y.l W' (HPX.rd.on hb') (HPY.rd.on hb') HPX.few
   have HNX:Hid (sameN x.l y.l=true→∀ k,k < i+1→∀ x y,T[k]? = some x→T'[k]? = some y→sameN x.l y.l=true):=hid fun h=>lt_more (p:=fun k=>∀ x y,T[k]? = some x→T'[k]? = some y→sameN x.l y.l=true) HOK.out fun x' y' hx' hy'=>by
    rw[hx] at hx'
    rw[hy] at hy'
    injection hx' with hx'
    injection hy' with hy'
    subst hx' hy'
    exact h
   have HBD:Hid (sameN x.l y.l=false→v=false):=hid fun h=>HNO.out fun k=>by rw[k.2.2 i x y hx hy] at h;cases h
   obtain⟨A,n,c,l⟩:=x
   obtain⟨A',n',c',l'⟩:=y
   dsimp only at c0 e0 HSP HNX HBD
   have HBW:=hid (HW.out _ hb)
   have HBR:=hid hb
   generalize sameN l l'=q at HSP HNX HBD
   clear ck ek hx hy had had2 HPX HPY HOK hb
   go_wp2_with fail
   go_quiet ((go_at_call 38;exact Qui.one (HSP.out _ (by first | exact HBW.out | exact HBW.out.drew | exact Below.drewN HBW.out _))))
   cases q
   ·have HV:=hid (HBD.out rfl)
    clear HBD HNX HSP HNO HYES
    go_wp2_with fail
    go_ret
    exact Ans.mk (by rw[HV.out];rfl) (Below.drewN HBW.out nq)
   ·have HNX2:=hid (HNX.out rfl)
    clear HBD HNX HSP
    go_wp2_with fail
    go_roundw
    case rel=>exact⟨i+1,by omega,by go_num,HNX2.out,Below.drewN HBR.out nq⟩
    case measure=>simp[intOf];omega
  ·have hge:n3≤i:=by omega
   have HV:=hid (HYES.out ⟨HBB.out,by rw[HT.out.len,HT'.out.len],fun k x y hx hy=>HOK.out k (by have:=(List.getElem?_eq_some_iff.1 hx).1;have:=HT.out.len;omega) x y hx hy⟩)
   clear HOK HNO HYES
   go_wp2_with fail
   go_ret
   exact Ans.mk (by rw[HV.out];rfl) (HW.out _ hb)
end Go.Proofs.YtdkngfdnfekgfaaGreat
