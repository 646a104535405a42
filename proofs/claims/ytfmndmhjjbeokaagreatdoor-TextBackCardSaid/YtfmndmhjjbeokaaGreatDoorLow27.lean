import Derived.Test.YtfmndmhjjbeokaaGreatDoorLow26
import Derived.Test.YtfmndmhjjbeokaaGreatDoorLow7
import Derived.Test.YtfmndmhjjbeokaaGreatDoorLow6
import Derived.Laws.MakeOwn
import Derived.Laws.OwnMore
import Derived.BigQuiet
import Derived.Laws.StructEq
namespace Go.Proofs.YtfmndmhjjbeokaaGreatDoor
namespace Tab
set_option linter.unusedSimpArgs false
set_option linter.unusedVariables false
def runI (I:Itr) (p i:Nat):Nat:=fwdI I p I.length i
def timI (I:Itr) (i p:Nat):Nat:=(runI I p i - i) / p+1
def pre (I:Itr) (k:Nat):Nat:=szI (I.take k)
def savA (I:Itr) (i p:Nat):Int:=savI ((I.drop i).take p) (timI I i p)
def Cand (I:Itr) (i p:Nat):Prop:=1≤p∧i+2*p≤I.length∧2≤timI I i p
def Beats (s:Bst) (v:Int) (j q:Nat):Prop:=v < s.most∨(v=s.most∧(s.at_ < j∨(s.at_=j∧s.p≤q)))
def MadeBst (I:Itr) (s:Bst):Prop:=s=⟨0,0,0,0⟩∨(Cand I s.at_ s.p∧s.n=timI I s.at_ s.p∧s.most=savA I s.at_ s.p∧0 < s.most)
theorem MadeBst.nn {I:Itr} {s:Bst} (h:MadeBst I s):0≤s.most:=by
 rcases h with rfl | h
 ·exact Int.le_refl _
 ·have:=h.2.2.2;omega
def Opt (I:Itr) (s:Bst):Prop:=MadeBst I s∧∀ j q,Cand I j q→Beats s (savA I j q) j q
theorem Opt.same {I:Itr} {s t:Bst} (hs:Opt I s) (ht:Opt I t):s=t:=by
 obtain ⟨h1,h2⟩:=hs
 obtain ⟨h3,h4⟩:=ht
 rcases h1 with e1 | ⟨c1,n1,m1,p1⟩
 ·rcases h3 with e3 | ⟨c3,n3,m3,p3⟩
  ·rw [e1,e3]
  ·exfalso
   have:=h2 _ _ c3
   rw [← m3,e1] at this
   unfold Beats at this
   dsimp only at this
   omega
 ·rcases h3 with e3 | ⟨c3,n3,m3,p3⟩
  ·exfalso
   have:=h4 _ _ c1
   rw [← m1,e3] at this
   unfold Beats at this
   dsimp only at this
   omega
  ·have a:=h2 _ _ c3
   have b:=h4 _ _ c1
   rw [← m3] at a
   rw [← m1] at b
   unfold Beats at a b
   have e1:s.most=t.most:=by omega
   have e2:s.at_=t.at_:=by omega
   have e3:s.p=t.p:=by omega
   have e4:s.n=t.n:=by rw [n1,n3,e2,e3]
   obtain ⟨sm,sa,sp,sn⟩:=s
   obtain ⟨tm,ta,tp,tn⟩:=t
   dsimp only at e1 e2 e3 e4
   rw [e1,e2,e3,e4]
theorem Beats.far {s:Bst} {u v:Int} {i j q:Nat} (h:Beats s u i q) (hv:v≤u) (hij:i≤j):Beats s v j q:=by
 unfold Beats at h ⊢
 omega
end Tab
end Go.Proofs.YtfmndmhjjbeokaaGreatDoor
namespace Go.Proofs.YtfmndmhjjbeokaaGreatDoor
open Go.RowKit Tab
set_option linter.unusedSimpArgs false
set_option linter.unusedVariables false
set_option maxRecDepth 100000 in
set_option maxHeartbeats 1600000 in
theorem rnodes_any (A1 A2:Option Addr) (n m c1 c2:Nat) (l1 l2:List Nd) (w:World) (h1:RdN w w.heap.size A1 n l1) (h2:RdN w w.heap.size A2 m l2) (hn:n≤140737488351232) :
  Calls Tryz.prog 21 #[.slice A1 n c1,.slice A2 m c2] w (Qui (.bool (sameN l1 l2)) w):=by
 by_cases hnm:n=m
 ·subst hnm
  generalize hb:sameN l1 l2=b
  have HB:=Lib.hid hb
  clear hb
  go_enter Tryz.func21,Tryz.ntmps21
  go_wp2_with fail
  go_loopw [5,13] (fun _ s wr=>∃ i q:Nat,i≤n∧s=.int .i64 i∧sameN (l1.drop i) (l2.drop i)=b∧wr=w.drewN q) (fun _ s _=>n - (intOf s).toNat)
  case atStart=>exact ⟨0,0,by omega,rfl,by simpa using HB.out,rfl⟩
  case round =>
   obtain ⟨i,q,hi,rfl,hs,rfl⟩:=hrel
   have HS:=Lib.hid hs
   clear hs
   by_cases hlt:i < n
   ·obtain ⟨ad,x,rfl,_,hx,hin,c0,c1',c2'⟩:=h1.at_ hlt
    obtain ⟨ad2,y,rfl,_,hy,hin2,d0,d1,d2⟩:=h2.at_ hlt
    have e1:=drop_cons hx
    have e2:=drop_cons hy
    have hst:=HS.out
    rw [e1,e2] at hst
    simp only [sameN] at hst
    have HST:=Lib.hid hst
    have hne:=fun W=>nd_neqs x y W
    obtain ⟨xk,xp,xn⟩:=x
    obtain ⟨yk,yp,yn⟩:=y
    dsimp only at c0 c1' c2' d0 d1 d2 hne
    clear hx hy hin hin2 e1 e2 hst HS
    generalize hE:ndEq ⟨xk,xp,xn⟩ ⟨yk,yp,yn⟩=E at HST hne
    clear hE
    cases E with
    | true =>
     have hne:∀ W,(binOp .neq 54 (nd xk xp xn) (nd yk yp yn)).run Tryz.prog W=.ok (.bool false) W:=hne
     go_wp2_with fail
     go_quiet (fail)
     go_wp2_with fail
     go_roundw
     case rel=>exact ⟨i+1,q+nq,by omega,by go_num,by simpa using HST.out,rfl⟩
     case measure=>simp [intOf];omega
    | false =>
     have hne:∀ W,(binOp .neq 54 (nd xk xp xn) (nd yk yp yn)).run Tryz.prog W=.ok (.bool true) W:=hne
     go_wp2_with fail
     go_quiet (fail)
     go_wp2_with fail
     go_ret
     exact ⟨by have:=HST.out;simp at this;rw [← this];rfl,q+nq,by rw [World.drewN_drewN]⟩
   ·have hge:n≤i:=by omega
    have e1:l1.drop i=[]:=List.drop_eq_nil_of_le (by rw [h1.len];exact hge)
    have e2:l2.drop i=[]:=List.drop_eq_nil_of_le (by rw [h2.len];exact hge)
    have hst:=HS.out
    rw [e1,e2] at hst
    have HST:=Lib.hid hst
    clear hst HS e1 e2
    go_wp2_with fail
    go_ret
    exact ⟨by rw [← HST.out];rfl,q,rfl⟩
 ·have hb:=sameN_len (a:=l1) (b:=l2) (by rw [h1.len,h2.len];exact hnm)
  rw [hb]
  have h3:((n:Int) == (m:Int))=false:=beq_eq_false_iff_ne.2 (by omega)
  have h4:((n:Int) != (m:Int))=true:=by rw [bne,h3];rfl
  clear hb h1 h2
  go_enter Tryz.func21,Tryz.ntmps21
  go_wp2_with fail
  go_ret
  exact ⟨rfl,0,rfl⟩
end Go.Proofs.YtfmndmhjjbeokaaGreatDoor
namespace Go.Proofs.YtfmndmhjjbeokaaGreatDoor
open Go.RowKit Tab
set_option linter.unusedSimpArgs false
set_option linter.unusedVariables false
def heq5 (a0 a1 a2 a3 a4 b0 b1 b2 b3 b4:Int):Bool:=decide (a0=b0∧a1=b1∧a2=b2∧a3=b3∧a4=b4)
set_option maxRecDepth 100000 in
set_option maxHeartbeats 2000000 in
theorem arr5_eq (a0 a1 a2 a3 a4 b0 b1 b2 b3 b4:Int) (W:World):(Op.equalIn 10000 58 (.agg #[.int .i64 a0,.int .i64 a1,.int .i64 a2,.int .i64 a3,.int .i64 a4]) (.agg #[.int .i64 b0,.int .i64 b1,.int .i64 b2,.int .i64 b3,.int .i64 b4])).run Tryz.prog W =
  .ok (heq5 a0 a1 a2 a3 a4 b0 b1 b2 b3 b4) W:=by
 have u3:=Tryz.underlying3
 have a3':=Tryz.isAgg3
 have z3:=Tryz.sizeOf3
 rw [show (10000:Nat)=9999+1 from rfl,Op.equalIn]
 simp only [Sem.run_bind,run_underlying Tryz.underlying58,Result.andThen_ok]
 simp only [Std.Legacy.Range.forIn_eq_forIn_range',Std.Legacy.Range.size,Nat.sub_zero,Nat.add_sub_cancel,Nat.div_one,List.range'_succ,List.range'_zero,List.forIn_cons,List.forIn_nil]
 unfold heq5
 go_simp
 by_cases h0:a0=b0
 ·by_cases h1:a1=b1
  ·by_cases h2:a2=b2
   ·by_cases h3:a3=b3
    ·by_cases h4:a4=b4 <;> simp [h0,h1,h2,h3,h4]
    ·simp [h0,h1,h2,h3]
   ·simp [h0,h1,h2]
  ·simp [h0,h1]
 ·simp [h0]
theorem arr5_neq (a0 a1 a2 a3 a4 b0 b1 b2 b3 b4:Int) (W:World):(binOp .neq 58 (.agg #[.int .i64 a0,.int .i64 a1,.int .i64 a2,.int .i64 a3,.int .i64 a4]) (.agg #[.int .i64 b0,.int .i64 b1,.int .i64 b2,.int .i64 b3,.int .i64 b4])).run Tryz.prog W =
  .ok (.bool (!(heq5 a0 a1 a2 a3 a4 b0 b1 b2 b3 b4))) W:=by
 rw [run_neq_struct,arr5_eq]
 rfl
theorem pc_neqs (a b c d:Int) (W:World):(binOp .neq 62 (.agg #[.int .i64 a,.int .i64 b]) (.agg #[.int .i64 c,.int .i64 d])).run Tryz.prog W=.ok (.bool (!(decide ((a,b)=(c,d))))) W:=by
 by_cases h1:a=c
 ·by_cases h2:b=d
  ·subst h1;subst h2
   simp [run_neq_struct,go_sem]
  ·subst h1
   simp [run_neq_struct,go_sem,h2]
 ·simp [run_neq_struct,go_sem,h1]
def SameP (x y:Pq):Prop:=x.1.name=y.1.name∧x.1.bud=y.1.bud∧x.1.per=y.1.per∧x.1.sched=y.1.sched∧x.1.stop=y.1.stop∧(x.1.h0=y.1.h0∧x.1.h1=y.1.h1∧x.1.h2=y.1.h2∧x.1.h3=y.1.h3∧x.1.h4=y.1.h4)∧x.2=y.2
instance (x y:Pq):Decidable (SameP x y):=by unfold SameP;infer_instance
set_option maxRecDepth 100000 in
set_option maxHeartbeats 4000000 in
theorem rsamep_any (x y:Pq) (w:World) (hx:RdB prc w w.heap.size x.1.pa x.1.pn x.2) (hy:RdB prc w w.heap.size y.1.pa y.1.pn y.2) (hn:x.1.pn≤140737488351232) :
  Calls Tryz.prog 84 #[pv x.1,pv y.1] w (Ans (.bool (decide (SameP x y))) w):=by
 have HNO:Hid (¬ SameP x y→decide (SameP x y)=false):=Lib.hid fun h=>decide_eq_false h
 have HYES:Hid (SameP x y→decide (SameP x y)=true):=Lib.hid fun h=>decide_eq_true h
 generalize decide (SameP x y)=v at HNO HYES ⊢
 obtain ⟨⟨nm,bu,pe,sc,st,pa,pn,pc,a0,a1,a2,a3,a4⟩,L⟩:=x
 obtain ⟨⟨nm2,bu2,pe2,sc2,st2,pa2,pn2,pc2,b0,b1,b2,b3,b4⟩,M⟩:=y
 unfold SameP at HNO HYES
 dsimp only at hx hy HNO HYES hn ⊢
 have g0:=bl1 w (.cells #[.string nm,.int .i64 bu,.int .i64 pe,.bool sc,.bool st,.slice pa pn pc,.int .i64 a0,.int .i64 a1,.int .i64 a2,.int .i64 a3,.int .i64 a4] 60)
 have g1:=g0.trans ((bl1 _ (.cells #[.string nm2,.int .i64 bu2,.int .i64 pe2,.bool sc2,.bool st2,.slice pa2 pn2 pc2,.int .i64 b0,.int .i64 b1,.int .i64 b2,.int .i64 b3,.int .i64 b4] 60)).mono g0.size)
 have HB:=Lib.hid g1
 have HX:=Lib.hid hx
 have HY:=Lib.hid hy
 clear g0 g1 hx hy
 go_enter Tryz.func84,Tryz.ntmps84
 by_cases k0:nm=nm2
 case neg =>
  have hq:(nm.toList == nm2.toList)=false:=bs_eq_of (decide_eq_false k0)
  have HV:=Lib.hid (HNO.out fun h=>k0 h.1)
  clear HNO HYES k0
  go_wp2_with fail
  go_ret
  exact Ans.mk (by rw [HV.out];rfl) HB.out
 subst k0
 by_cases k1:bu=bu2
 case neg =>
  have hq1:(bu != bu2)=true:=bne_iff_ne.2 k1
  have HV:=Lib.hid (HNO.out fun h=>k1 h.2.1)
  clear HNO HYES k1
  go_wp2_with fail
  go_ret
  exact Ans.mk (by rw [HV.out];rfl) HB.out
 subst k1
 by_cases k2:pe=pe2
 case neg =>
  have hq2:(pe != pe2)=true:=bne_iff_ne.2 k2
  have HV:=Lib.hid (HNO.out fun h=>k2 h.2.2.1)
  clear HNO HYES k2
  go_wp2_with fail
  go_ret
  exact Ans.mk (by rw [HV.out];rfl) HB.out
 subst k2
 by_cases k3:sc=sc2
 case neg =>
  have HV:=Lib.hid (HNO.out fun h=>k3 h.2.2.2.1)
  clear HNO HYES
  cases sc <;> cases sc2 <;> (try (exact absurd rfl k3)) <;> go_wp2_with fail
  all_goals
   go_ret
   exact Ans.mk (by rw [HV.out];rfl) HB.out
 subst k3
 by_cases k4:st=st2
 case neg =>
  have HV:=Lib.hid (HNO.out fun h=>k4 h.2.2.2.2.1)
  clear HNO HYES
  cases st <;> cases st2 <;> (try (exact absurd rfl k4)) <;> cases sc <;> go_wp2_with fail
  all_goals
   go_ret
   exact Ans.mk (by rw [HV.out];rfl) HB.out
 subst k4
 have hha:=fun W=>arr5_neq a0 a1 a2 a3 a4 b0 b1 b2 b3 b4 W
 by_cases k5:a0=b0∧a1=b1∧a2=b2∧a3=b3∧a4=b4
 case neg =>
  rw [show heq5 a0 a1 a2 a3 a4 b0 b1 b2 b3 b4=false from decide_eq_false k5] at hha
  have hha:∀ W,(binOp .neq 58 (.agg #[.int .i64 a0,.int .i64 a1,.int .i64 a2,.int .i64 a3,.int .i64 a4]) (.agg #[.int .i64 b0,.int .i64 b1,.int .i64 b2,.int .i64 b3,.int .i64 b4])).run Tryz.prog W=.ok (.bool true) W:=hha
  have HV:=Lib.hid (HNO.out fun h=>k5 h.2.2.2.2.2.1)
  clear HNO HYES k5
  go_wp2_with fail
  go_ret
  exact Ans.mk (by rw [HV.out];rfl) HB.out
 rw [show heq5 a0 a1 a2 a3 a4 b0 b1 b2 b3 b4=true from decide_eq_true k5] at hha
 have hha:∀ W,(binOp .neq 58 (.agg #[.int .i64 a0,.int .i64 a1,.int .i64 a2,.int .i64 a3,.int .i64 a4]) (.agg #[.int .i64 b0,.int .i64 b1,.int .i64 b2,.int .i64 b3,.int .i64 b4])).run Tryz.prog W=.ok (.bool false) W:=hha
 have HYES2:=Lib.hid fun h=>HYES.out ⟨rfl,rfl,rfl,rfl,rfl,k5,h⟩
 have HNO2:Hid (¬ L=M→v=false):=Lib.hid fun h=>HNO.out fun k=>h k.2.2.2.2.2.2
 clear k5 HNO HYES
 by_cases k6:pn=pn2
 case neg =>
  have hq6:((pn:Int) != (pn2:Int))=true:=bne_iff_ne.2 (by omega)
  have HV:=Lib.hid (HNO2.out fun h=>k6 (by rw [← HX.out.len,← HY.out.len,h]))
  clear HNO2 HYES2
  go_wp2_with fail
  go_ret
  exact Ans.mk (by rw [HV.out];rfl) HB.out
 subst k6
 go_wp2_with fail
 clear hha
 have n5:((w.alloc (.cells #[.string nm,.int .i64 bu,.int .i64 pe,.bool sc,.bool st,.slice pa pn pc,.int .i64 a0,.int .i64 a1,.int .i64 a2,.int .i64 a3,.int .i64 a4] 60)).alloc (.cells #[.string nm,.int .i64 bu,.int .i64 pe,.bool sc,.bool st,.slice pa2 pn pc2,.int .i64 b0,.int .i64 b1,.int .i64 b2,.int .i64 b3,.int .i64 b4] 60)).cell? ⟨w.heap.size,5,none⟩=some (.slice pa pn pc):=by
  rw [(bl1 _ _).cell (by simp)]
  exact World.cell?_alloc_mark _ _ _ _ _
 have n5':((w.alloc (.cells #[.string nm,.int .i64 bu,.int .i64 pe,.bool sc,.bool st,.slice pa pn pc,.int .i64 a0,.int .i64 a1,.int .i64 a2,.int .i64 a3,.int .i64 a4] 60)).alloc (.cells #[.string nm,.int .i64 bu,.int .i64 pe,.bool sc,.bool st,.slice pa2 pn pc2,.int .i64 b0,.int .i64 b1,.int .i64 b2,.int .i64 b3,.int .i64 b4] 60)).cell? ⟨w.heap.size+1,5,none⟩=some (.slice pa2 pn pc2):=by
  have e:(w.alloc (.cells #[.string nm,.int .i64 bu,.int .i64 pe,.bool sc,.bool st,.slice pa pn pc,.int .i64 a0,.int .i64 a1,.int .i64 a2,.int .i64 a3,.int .i64 a4] 60)).heap.size=w.heap.size+1:=by simp
  rw [← e]
  exact World.cell?_alloc_mark _ _ _ _ _
 have hgs:w.heap.size+1 < ((w.alloc (.cells #[.string nm,.int .i64 bu,.int .i64 pe,.bool sc,.bool st,.slice pa pn pc,.int .i64 a0,.int .i64 a1,.int .i64 a2,.int .i64 a3,.int .i64 a4] 60)).alloc (.cells #[.string nm,.int .i64 bu,.int .i64 pe,.bool sc,.bool st,.slice pa2 pn pc2,.int .i64 b0,.int .i64 b1,.int .i64 b2,.int .i64 b3,.int .i64 b4] 60)).heap.size:=by simp
 generalize (w.alloc (.cells #[.string nm,.int .i64 bu,.int .i64 pe,.bool sc,.bool st,.slice pa pn pc,.int .i64 a0,.int .i64 a1,.int .i64 a2,.int .i64 a3,.int .i64 a4] 60)).alloc (.cells #[.string nm,.int .i64 bu,.int .i64 pe,.bool sc,.bool st,.slice pa2 pn pc2,.int .i64 b0,.int .i64 b1,.int .i64 b2,.int .i64 b3,.int .i64 b4] 60)=W at HB n5 n5' hgs ⊢
 obtain ⟨g,hg⟩:∃ g,g=w.heap.size:=⟨_,rfl⟩
 rw [← hg] at n5 n5' hgs ⊢
 have HG:=Lib.hid hg
 have N5:=Lib.hid n5
 have N5':=Lib.hid n5'
 clear hg n5 n5'
 obtain ⟨g2,hg2⟩:∃ g2,g2=g+1:=⟨_,rfl⟩
 rw [← hg2] at N5' hgs ⊢
 have HG2:=Lib.hid hg2
 have hgl:g < W.heap.size:=by omega
 clear hg2
 go_loopw [5,58] (fun _ s wr=>∃ i:Nat,i≤pn∧s=.int .i64 i∧(∀ k,k < i→L[k]? = M[k]?)∧Below W.heap.size W wr) (fun _ s _=>pn - (intOf s).toNat)
 case atStart=>exact ⟨0,by omega,rfl,fun k hk=>by omega,Below.refl _ _⟩
 case round =>
  obtain ⟨i,hi,rfl,hok,hb⟩:=hrel
  have HOK:=Lib.hid hok
  clear hok
  have n5:=(hb.cell (p:=⟨g,5,none⟩) hgl).trans N5.out
  have n5':=(hb.cell (p:=⟨g2,5,none⟩) hgs).trans N5'.out
  have hbw:=HB.out.trans (hb.mono HB.out.size)
  by_cases hlt:i < pn
  ·obtain ⟨ad,q,rfl,had,hx,c0,ck⟩:=(HX.out.on hbw).at_ prc_len (by omega) hlt
   have c1:=ck 1 _ (by omega) rfl
   have c0:=c0 _ rfl
   obtain ⟨ad2,q2,rfl,had2,hy,d0,dk⟩:=(HY.out.on hbw).at_ prc_len (by omega) hlt
   have d1:=dk 1 _ (by omega) rfl
   have d0:=d0 _ rfl
   obtain ⟨e,p⟩:=q
   obtain ⟨e2,p2⟩:=q2
   dsimp only at c0 c1 d0 d1
   have hne:=fun W=>pc_neqs e p e2 p2 W
   by_cases hE:(e,p)=(e2,p2)
   ·rw [decide_eq_true hE] at hne
    have hne:∀ W,(binOp .neq 62 (.agg #[.int .i64 e,.int .i64 p]) (.agg #[.int .i64 e2,.int .i64 p2])).run Tryz.prog W=.ok (.bool false) W:=hne
    have HNX:Hid (∀ k,k < i+1→L[k]? = M[k]?):=Lib.hid (lt_more (p:=fun k=>L[k]? = M[k]?) HOK.out (by rw [hx,hy,hE]))
    have HBB:=Lib.hid hb
    clear hE hx hy ck dk had had2 HOK hb hbw
    go_wp2_with fail
    go_quiet (fail)
    go_wp2_with fail
    go_roundw
    case rel=>exact ⟨i+1,by omega,by go_num,HNX.out,Below.drewN HBB.out nq⟩
    case measure=>simp [intOf];omega
   ·rw [decide_eq_false hE] at hne
    have hne:∀ W,(binOp .neq 62 (.agg #[.int .i64 e,.int .i64 p]) (.agg #[.int .i64 e2,.int .i64 p2])).run Tryz.prog W=.ok (.bool true) W:=hne
    have HV:=Lib.hid (HNO2.out fun h=>hE (by rw [h,hy] at hx;injection hx with hx;exact hx.symm))
    have HBB:=Lib.hid hbw
    clear hE hx hy ck dk had had2 HOK hb hbw HNO2 HYES2
    go_wp2_with fail
    go_quiet (fail)
    go_wp2_with fail
    go_ret
    exact Ans.mk (by rw [HV.out];rfl) (Below.drewN HBB.out nq)
  ·have hge:pn≤i:=by omega
   have HV:=Lib.hid (HYES2.out (List.ext_getElem? fun k=>by
    rcases Nat.lt_or_ge k i with h5 | h5
    ·exact HOK.out k h5
    ·rw [List.getElem?_eq_none (by rw [HX.out.len];omega),List.getElem?_eq_none (by rw [HY.out.len];omega)]))
   clear HOK HNO2 HYES2
   go_wp2_with fail
   go_ret
   exact Ans.mk (by rw [HV.out];rfl) hbw
end Go.Proofs.YtfmndmhjjbeokaaGreatDoor
