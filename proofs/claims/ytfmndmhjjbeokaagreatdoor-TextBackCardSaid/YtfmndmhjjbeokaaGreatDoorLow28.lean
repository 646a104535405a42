import Derived.Test.YtfmndmhjjbeokaaGreatDoorLow27
import Derived.Deep.RegionWith
import Derived.Test.YtfmndmhjjbeokaaGreatDoorLow23
namespace Go.Proofs.YtfmndmhjjbeokaaGreatDoor
open Go.RowKit Tab
set_option linter.unusedSimpArgs false
set_option linter.unusedVariables false
def chT (x:ChV):Int×Int×Bool×Int×Int×Int:=(x.from_,x.to_,x.queue,x.cap,x.max,x.late)
theorem chT_inj {x y:ChV} (h:chT x=chT y):x=y:=by
 obtain ⟨a,b,c,d,e,f⟩:=x
 obtain ⟨a2,b2,c2,d2,e2,f2⟩:=y
 unfold chT at h
 simp at h
 obtain ⟨rfl,rfl,rfl,rfl,rfl,rfl⟩:=h
 rfl
instance:DecidableEq ChV:=fun x y=>if h:chT x=chT y then isTrue (chT_inj h) else isFalse fun e=>h (by rw [e])
set_option maxHeartbeats 2000000 in
theorem ch_neqs (x y:ChV) (W:World):(binOp .neq 66 (cv x) (cv y)).run Tryz.prog W=.ok (.bool (!(decide (x=y)))) W:=by
 obtain ⟨a,b,c,d,e,f⟩:=x
 obtain ⟨a2,b2,c2,d2,e2,f2⟩:=y
 by_cases h1:a=a2
 ·by_cases h2:b=b2
  ·by_cases h3:c=c2
   ·by_cases h4:d=d2
    ·by_cases h5:e=e2
     ·by_cases h6:f=f2
      ·subst h1;subst h2;subst h3;subst h4;subst h5;subst h6
       simp [run_neq_struct,go_sem]
      ·subst h1;subst h2;subst h3;subst h4;subst h5
       simp [run_neq_struct,go_sem,h6]
     ·subst h1;subst h2;subst h3;subst h4
      simp [run_neq_struct,go_sem,h5]
    ·subst h1;subst h2;subst h3
     simp [run_neq_struct,go_sem,h4]
   ·subst h1;subst h2
    simp [run_neq_struct,go_sem,h3]
  ·subst h1
   simp [run_neq_struct,go_sem,h2]
 ·simp [run_neq_struct,go_sem,h1]
def SameB (P:List Pq) (C:List ChV) (P':List Pq) (C':List ChV):Prop:=P.length=P'.length∧(∀ (i:Nat) (x y:Pq),P[i]? = some x→P'[i]? = some y→SameP x y)∧C=C'
def SameC (P:List Pq) (C:List ChV) (T:List NdT) (P':List Pq) (C':List ChV) (T':List NdT):Prop:=SameB P C P' C'∧T.length=T'.length∧(∀ (i:Nat) (x y:NdT),T[i]? = some x→T'[i]? = some y→sameN x.l y.l=true)
open Classical in
noncomputable def butF (P:List Pq) (C:List ChV) (P':List Pq) (C':List ChV):Bool:=decide (SameB P C P' C')
open Classical in
noncomputable def sameF (P:List Pq) (C:List ChV) (T:List NdT) (P':List Pq) (C':List ChV) (T':List NdT):Bool:=decide (SameC P C T P' C' T')
theorem butF_yes {P:List Pq} {C:List ChV} {P':List Pq} {C':List ChV} (h:SameB P C P' C'):butF P C P' C'=true:=by unfold butF;classical exact decide_eq_true h
theorem butF_no {P:List Pq} {C:List ChV} {P':List Pq} {C':List ChV} (h:¬ SameB P C P' C'):butF P C P' C'=false:=by unfold butF;classical exact decide_eq_false h
theorem sameF_yes {P:List Pq} {C:List ChV} {T:List NdT} {P':List Pq} {C':List ChV} {T':List NdT} (h:SameC P C T P' C' T'):sameF P C T P' C' T'=true:=by unfold sameF;classical exact decide_eq_true h
theorem sameF_no {P:List Pq} {C:List ChV} {T:List NdT} {P':List Pq} {C':List ChV} {T':List NdT} (h:¬ SameC P C T P' C' T'):sameF P C T P' C' T'=false:=by unfold sameF;classical exact decide_eq_false h
set_option maxRecDepth 100000 in
set_option maxHeartbeats 4000000 in
theorem rbut_any (A1 A2 A3 E1 E2 E3:Option Addr) (n1 n2 n3 c1 c2 c3 m1 m2 m3 d1 d2 d3:Nat) (P P':List Pq) (C C':List ChV) (w:World) (hP:RdB pcq w w.heap.size A1 n1 P) (hC:RdB cc w w.heap.size A2 n2 C) (hP':RdB pcq w w.heap.size E1 m1 P') (hC':RdB cc w w.heap.size E2 m2 C')
  (hp:∀ x∈P,RdB prc w w.heap.size x.1.pa x.1.pn x.2∧x.1.pn≤140737488351232) (hp':∀ x∈P',RdB prc w w.heap.size x.1.pa x.1.pn x.2) (q1:n1≤140737488351232) (q2:n2≤140737488351232) :
  Calls Tryz.prog 50 #[.agg #[.slice A1 n1 c1,.slice A2 n2 c2,.slice A3 n3 c3],.agg #[.slice E1 m1 d1,.slice E2 m2 d2,.slice E3 m3 d3]] w (Ans (.bool (butF P C P' C')) w):=by
 have g0:=bl1 w (.cells #[.slice A1 n1 c1,.slice A2 n2 c2,.slice A3 n3 c3] 31)
 have g1:=g0.trans ((bl1 _ (.cells #[.slice E1 m1 d1,.slice E2 m2 d2,.slice E3 m3 d3] 31)).mono g0.size)
 have HNO:=Lib.hid (fun h=>butF_no h:¬ SameB P C P' C'→butF P C P' C'=false)
 have HYES:=Lib.hid (fun h=>butF_yes h:SameB P C P' C'→butF P C P' C'=true)
 generalize butF P C P' C'=v at HNO HYES ⊢
 have HB:=Lib.hid g1
 have HP:=Lib.hid hP
 have HC:=Lib.hid hC
 have HP':=Lib.hid hP'
 have HC':=Lib.hid hC'
 have HPT:=Lib.hid hp
 have HPT':=Lib.hid hp'
 clear g0 g1 hP hC hP' hC' hp hp'
 go_enter Tryz.func50,Tryz.ntmps50
 by_cases k1:n1=m1
 case neg =>
  have hq1:((n1:Int) != (m1:Int))=true:=bne_iff_ne.2 (by omega)
  have HV:=Lib.hid (HNO.out fun h=>k1 (by rw [← HP.out.len,← HP'.out.len];exact h.1))
  clear HNO HYES k1
  go_wp2_with fail
  go_ret
  exact Ans.mk (by rw [HV.out];rfl) HB.out
 by_cases k2:n2=m2
 case neg =>
  have hq1:((n2:Int) != (m2:Int))=true:=bne_iff_ne.2 (by omega)
  have HV:=Lib.hid (HNO.out fun h=>k2 (by rw [← HC.out.len,← HC'.out.len,h.2.2]))
  clear HNO HYES k2
  subst k1
  go_wp2_with fail
  go_ret
  exact Ans.mk (by rw [HV.out];rfl) HB.out
 subst k1 k2
 go_wp2_with fail
 have o0:((w.alloc (.cells #[.slice A1 n1 c1,.slice A2 n2 c2,.slice A3 n3 c3] 31)).alloc (.cells #[.slice E1 n1 d1,.slice E2 n2 d2,.slice E3 m3 d3] 31)).cell? ⟨w.heap.size,0,none⟩=some (.slice A1 n1 c1):=by
  rw [(bl1 _ _).cell (by simp)]
  exact World.cell?_alloc_mark _ _ _ _ _
 have o1:((w.alloc (.cells #[.slice A1 n1 c1,.slice A2 n2 c2,.slice A3 n3 c3] 31)).alloc (.cells #[.slice E1 n1 d1,.slice E2 n2 d2,.slice E3 m3 d3] 31)).cell? ⟨w.heap.size,1,none⟩=some (.slice A2 n2 c2):=by
  rw [(bl1 _ _).cell (by simp)]
  exact World.cell?_alloc_mark _ _ _ _ _
 have e:(w.alloc (.cells #[.slice A1 n1 c1,.slice A2 n2 c2,.slice A3 n3 c3] 31)).heap.size=w.heap.size+1:=by simp
 have p0:((w.alloc (.cells #[.slice A1 n1 c1,.slice A2 n2 c2,.slice A3 n3 c3] 31)).alloc (.cells #[.slice E1 n1 d1,.slice E2 n2 d2,.slice E3 m3 d3] 31)).cell? ⟨w.heap.size+1,0,none⟩=some (.slice E1 n1 d1):=by
  rw [← e]
  exact World.cell?_alloc_mark _ _ _ _ _
 have p1:((w.alloc (.cells #[.slice A1 n1 c1,.slice A2 n2 c2,.slice A3 n3 c3] 31)).alloc (.cells #[.slice E1 n1 d1,.slice E2 n2 d2,.slice E3 m3 d3] 31)).cell? ⟨w.heap.size+1,1,none⟩=some (.slice E2 n2 d2):=by
  rw [← e]
  exact World.cell?_alloc_mark _ _ _ _ _
 have hgs:w.heap.size+1 < ((w.alloc (.cells #[.slice A1 n1 c1,.slice A2 n2 c2,.slice A3 n3 c3] 31)).alloc (.cells #[.slice E1 n1 d1,.slice E2 n2 d2,.slice E3 m3 d3] 31)).heap.size:=by simp
 clear e
 generalize (w.alloc (.cells #[.slice A1 n1 c1,.slice A2 n2 c2,.slice A3 n3 c3] 31)).alloc (.cells #[.slice E1 n1 d1,.slice E2 n2 d2,.slice E3 m3 d3] 31)=W at HB o0 o1 p0 p1 hgs ⊢
 obtain ⟨g,hg⟩:∃ g,g=w.heap.size:=⟨_,rfl⟩
 rw [← hg] at o0 o1 p0 p1 hgs ⊢
 have HG:=Lib.hid hg
 clear hg
 obtain ⟨g2,hg2⟩:∃ g2,g2=g+1:=⟨_,rfl⟩
 rw [← hg2] at p0 p1 hgs ⊢
 have HG2:=Lib.hid hg2
 have hgl:g < W.heap.size:=by omega
 clear hg2
 have O0:=Lib.hid o0
 have O1:=Lib.hid o1
 have P0:=Lib.hid p0
 have P1:=Lib.hid p1
 have HM:=Lib.hid fun (W':World) (hb:Below W.heap.size W W') (o:Nat) (v:Value) (hv:W.cell? ⟨g,o,none⟩=some v)=>(hb.cell (p:=⟨g,o,none⟩) hgl).trans hv
 have HM2:=Lib.hid fun (W':World) (hb:Below W.heap.size W W') (o:Nat) (v:Value) (hv:W.cell? ⟨g2,o,none⟩=some v)=>(hb.cell (p:=⟨g2,o,none⟩) hgs).trans hv
 have HW:=Lib.hid fun (W':World) (hb:Below W.heap.size W W')=>HB.out.trans (hb.mono HB.out.size)
 clear o0 o1 p0 p1
 go_loopw [5,26] (fun _ s wr=>∃ i:Nat,i≤n1∧s=.int .i64 i∧(∀ k,k < i→∀ x y,P[k]? = some x→P'[k]? = some y→SameP x y)∧Below W.heap.size W wr) (fun _ s _=>n1 - (intOf s).toNat)
 case atStart=>exact ⟨0,by omega,rfl,fun k hk=>by omega,Below.refl _ _⟩
 case round =>
  obtain ⟨i,hi,rfl,hok,hb⟩:=hrel
  have HOK:=Lib.hid hok
  clear hok
  by_cases hlt:i < n1
  ·have m0:=HM.out wr hb 0 _ O0.out
   have m0':=HM2.out wr hb 0 _ P0.out
   obtain ⟨ad,x,rfl,had,hx,c0,ck⟩:=(HP.out.on (HW.out _ hb)).at_ pcq_len (by omega) hlt
   have cs:∀ k v,0 < k→(pcl x.1)[k]? = some v→wr.cell? ⟨(ad.add (i*11)).block,(ad.add (i*11)).off+k,none⟩=some v:=ck
   have c1:=cs 1 _ (by omega) rfl
   have c2:=cs 2 _ (by omega) rfl
   have c3:=cs 3 _ (by omega) rfl
   have c4:=cs 4 _ (by omega) rfl
   have c5:=cs 5 _ (by omega) rfl
   have c6:=cs 6 _ (by omega) rfl
   have c7:=cs 7 _ (by omega) rfl
   have c8:=cs 8 _ (by omega) rfl
   have c9:=cs 9 _ (by omega) rfl
   have c10:=cs 10 _ (by omega) rfl
   have c0:=c0 _ rfl
   obtain ⟨ad2,y,rfl,had2,hy,e0,ek⟩:=(HP'.out.on (HW.out _ hb)).at_ pcq_len (by omega) hlt
   have es:∀ k v,0 < k→(pcl y.1)[k]? = some v→wr.cell? ⟨(ad2.add (i*11)).block,(ad2.add (i*11)).off+k,none⟩=some v:=ek
   have e1:=es 1 _ (by omega) rfl
   have e2:=es 2 _ (by omega) rfl
   have e3:=es 3 _ (by omega) rfl
   have e4:=es 4 _ (by omega) rfl
   have e5:=es 5 _ (by omega) rfl
   have e6:=es 6 _ (by omega) rfl
   have e7:=es 7 _ (by omega) rfl
   have e8:=es 8 _ (by omega) rfl
   have e9:=es 9 _ (by omega) rfl
   have e10:=es 10 _ (by omega) rfl
   have e0:=e0 _ rfl
   have HPX:=HPT.out x (List.mem_of_getElem? hx)
   have HPY:=HPT'.out y (List.mem_of_getElem? hy)
   have HSP:=Lib.hid fun (W':World) (hb':Below w.heap.size w W')=>rsamep_any x y W' (HPX.1.on hb') (HPY.on hb') HPX.2
   have HNX:Hid (SameP x y→∀ k,k < i+1→∀ x y,P[k]? = some x→P'[k]? = some y→SameP x y):=Lib.hid fun h=>lt_more (p:=fun k=>∀ x y,P[k]? = some x→P'[k]? = some y→SameP x y) HOK.out fun x' y' hx' hy'=>by
    rw [hx] at hx'
    rw [hy] at hy'
    injection hx' with hx'
    injection hy' with hy'
    subst hx' hy'
    exact h
   have HBD:Hid (¬ SameP x y→v=false):=Lib.hid fun h=>HNO.out fun k=>h (k.2.1 i x y hx hy)
   obtain ⟨⟨nm,bu,pe,sc,st,pa,pn,pc,h0,h1,h2,h3,h4⟩,L⟩:=x
   obtain ⟨⟨nm2,bu2,pe2,sc2,st2,pa2,pn2,pc2,k0,k1,k2,k3,k4⟩,M⟩:=y
   dsimp only at c0 c1 c2 c3 c4 c5 c6 c7 c8 c9 c10 e0 e1 e2 e3 e4 e5 e6 e7 e8 e9 e10 HSP
   have HBW:=Lib.hid (HW.out _ hb)
   have HBB:=Lib.hid hb
   have HD:Hid (decide (SameP (⟨nm,bu,pe,sc,st,pa,pn,pc,h0,h1,h2,h3,h4⟩,L) (⟨nm2,bu2,pe2,sc2,st2,pa2,pn2,pc2,k0,k1,k2,k3,k4⟩,M))=true→SameP (⟨nm,bu,pe,sc,st,pa,pn,pc,h0,h1,h2,h3,h4⟩,L) (⟨nm2,bu2,pe2,sc2,st2,pa2,pn2,pc2,k0,k1,k2,k3,k4⟩,M)):=Lib.hid of_decide_eq_true
   have HD2:Hid (decide (SameP (⟨nm,bu,pe,sc,st,pa,pn,pc,h0,h1,h2,h3,h4⟩,L) (⟨nm2,bu2,pe2,sc2,st2,pa2,pn2,pc2,k0,k1,k2,k3,k4⟩,M))=false→¬ SameP (⟨nm,bu,pe,sc,st,pa,pn,pc,h0,h1,h2,h3,h4⟩,L) (⟨nm2,bu2,pe2,sc2,st2,pa2,pn2,pc2,k0,k1,k2,k3,k4⟩,M)):=Lib.hid of_decide_eq_false
   generalize decide (SameP (⟨nm,bu,pe,sc,st,pa,pn,pc,h0,h1,h2,h3,h4⟩,L) (⟨nm2,bu2,pe2,sc2,st2,pa2,pn2,pc2,k0,k1,k2,k3,k4⟩,M))=q at HSP HD HD2
   clear ck ek hx hy had had2 HPX HPY HOK cs es hb
   go_wp2_with fail
   go_region_with (go_at_call 84;refine (HSP.out _ (by first | exact HBW.out | exact HBW.out.drew | exact Below.drewN HBW.out _)).mono ?_;rintro e w5 ⟨rfl,hb5⟩)
   all_goals
    have hb5W:Below wr.heap.size wr w5:=⟨hb5.os,hb5.tape,hb5.output,hb5.size,hb5.block⟩
    have HB5:=Lib.hid hb5W
    clear hb5 hb5W
    cases q
    ·have HV:=Lib.hid (HBD.out (HD2.out rfl))
     clear HBD HNX HD HD2 HSP HNO HYES
     go_wp2_with fail
     go_ret
     exact Ans.mk (by rw [HV.out];rfl) (HBW.out.trans (HB5.out.mono HBW.out.size))
    ·have HNX2:=Lib.hid (HNX.out (HD.out rfl))
     clear HBD HNX HD HD2 HSP
     go_wp2_with fail
     go_roundw
     case rel=>exact ⟨i+1,by omega,by go_num,HNX2.out,HBB.out.trans (HB5.out.mono HBB.out.size)⟩
     case measure=>simp [intOf];omega
  ·have hge:n1≤i:=by omega
   have m1:=HM.out wr hb 1 _ O1.out
   have HPS:Hid (∀ (i:Nat) (x y:Pq),P[i]? = some x→P'[i]? = some y→SameP x y):=Lib.hid fun k x y hx hy=>HOK.out k (by have:=(List.getElem?_eq_some_iff.1 hx).1;have:=HP.out.len;omega) x y hx hy
   have HNO2:Hid (¬ C=C'→v=false):=Lib.hid fun h=>HNO.out fun k=>h k.2.2
   have HYES2:Hid (C=C'→v=true):=Lib.hid fun h=>HYES.out ⟨by rw [HP.out.len,HP'.out.len],HPS.out,h⟩
   clear HNO HYES HPS HOK
   go_wp2_with fail
   go_loopw [6,45] (fun _ s wr=>∃ i:Nat,i≤n2∧s=.int .i64 i∧(∀ k,k < i→C[k]? = C'[k]?)∧Below W.heap.size W wr) (fun _ s _=>n2 - (intOf s).toNat)
   case atStart=>exact ⟨0,by omega,rfl,fun k hk=>by omega,hb⟩
   case round =>
    obtain ⟨i,hi,rfl,hok,hb⟩:=hrel
    have HOK:=Lib.hid hok
    clear hok
    by_cases hlt:i < n2
    ·have m1:=HM.out wr hb 1 _ O1.out
     have m1':=HM2.out wr hb 1 _ P1.out
     obtain ⟨ad,x,rfl,had,hx,c0,ck⟩:=(HC.out.on (HW.out _ hb)).at_ cc_len (by omega) hlt
     have c1:=ck 1 _ (by omega) rfl
     have c2:=ck 2 _ (by omega) rfl
     have c3:=ck 3 _ (by omega) rfl
     have c4:=ck 4 _ (by omega) rfl
     have c5:=ck 5 _ (by omega) rfl
     have c0:=c0 _ rfl
     obtain ⟨ad2,y,rfl,had2,hy,e0,ek⟩:=(HC'.out.on (HW.out _ hb)).at_ cc_len (by omega) hlt
     have e1:=ek 1 _ (by omega) rfl
     have e2:=ek 2 _ (by omega) rfl
     have e3:=ek 3 _ (by omega) rfl
     have e4:=ek 4 _ (by omega) rfl
     have e5:=ek 5 _ (by omega) rfl
     have e0:=e0 _ rfl
     have hne:=fun W=>ch_neqs x y W
     have HNX:Hid (x=y→∀ k,k < i+1→C[k]? = C'[k]?):=Lib.hid fun h=>lt_more (p:=fun k=>C[k]? = C'[k]?) HOK.out (by rw [hx,hy,h])
     have HBD:Hid (¬ x=y→v=false):=Lib.hid fun h=>HNO2.out fun k=>h (by rw [k,hy] at hx;injection hx with hx;exact hx.symm)
     obtain ⟨xf,xt,xq,xc,xm,xl⟩:=x
     obtain ⟨yf,yt,yq,yc,ym,yl⟩:=y
     dsimp only at c0 c1 c2 c3 c4 c5 e0 e1 e2 e3 e4 e5 hne
     have HBB:=Lib.hid hb
     clear ck ek hx hy had had2 HOK hb
     by_cases hE:(⟨xf,xt,xq,xc,xm,xl⟩:ChV)=⟨yf,yt,yq,yc,ym,yl⟩
     ·rw [decide_eq_true hE] at hne
      have hne:∀ W,(binOp .neq 66 (.agg #[.int .i64 xf,.int .i64 xt,.bool xq,.int .i64 xc,.int .u32 xm,.int .i64 xl]) (.agg #[.int .i64 yf,.int .i64 yt,.bool yq,.int .i64 yc,.int .u32 ym,.int .i64 yl])).run Tryz.prog W=.ok (.bool false) W:=hne
      have HNX2:=Lib.hid (HNX.out hE)
      clear HNX HBD hE
      go_wp2_with fail
      go_quiet (fail)
      go_wp2_with fail
      go_roundw
      case rel=>exact ⟨i+1,by omega,by go_num,HNX2.out,Below.drewN HBB.out nq⟩
      case measure=>simp [intOf];omega
     ·rw [decide_eq_false hE] at hne
      have hne:∀ W,(binOp .neq 66 (.agg #[.int .i64 xf,.int .i64 xt,.bool xq,.int .i64 xc,.int .u32 xm,.int .i64 xl]) (.agg #[.int .i64 yf,.int .i64 yt,.bool yq,.int .i64 yc,.int .u32 ym,.int .i64 yl])).run Tryz.prog W=.ok (.bool true) W:=hne
      have HV:=Lib.hid (HBD.out hE)
      have HBW:=Lib.hid (HW.out _ HBB.out)
      clear HNX HBD hE HNO2 HYES2
      go_wp2_with fail
      go_quiet (fail)
      go_wp2_with fail
      go_ret
      exact Ans.mk (by rw [HV.out];rfl) (Below.drewN HBW.out nq)
    ·have hge:n2≤i:=by omega
     have HV:=Lib.hid (HYES2.out (List.ext_getElem? fun k=>by
      rcases Nat.lt_or_ge k i with h5 | h5
      ·exact HOK.out k h5
      ·rw [List.getElem?_eq_none (by rw [HC.out.len];omega),List.getElem?_eq_none (by rw [HC'.out.len];omega)]))
     clear HOK HNO2 HYES2
     go_wp2_with fail
     go_ret
     exact Ans.mk (by rw [HV.out];rfl) (HW.out _ hb)
end Go.Proofs.YtfmndmhjjbeokaaGreatDoor
namespace Go.Proofs.YtfmndmhjjbeokaaGreatDoor
open Go.RowKit Tab
set_option linter.unusedSimpArgs false
set_option linter.unusedVariables false
theorem Qui.one {P:Program} {f:FuncId} {args:Array Value} {w:World} {n:Nat} {v:Value} (h:Calls P f args (w.drewN n) (Qui v (w.drewN n))):Calls P f args (w.drewN n) fun e w''=>e=.returned v∧∃ m,w''=w.drewN m :=
 h.mono fun _ _ ⟨he,m,hm⟩=>⟨he,n+m,by rw [hm,World.drewN_drewN]⟩
set_option maxRecDepth 100000 in
set_option maxHeartbeats 4000000 in
theorem rsamec_any (A1 A2 A3 E1 E2 E3:Option Addr) (n1 n2 n3 c1 c2 c3 m1 m2 m3 d1 d2 d3:Nat) (P P':List Pq) (C C':List ChV) (T T':List NdT) (w:World) (hP:RdB pcq w w.heap.size A1 n1 P) (hC:RdB cc w w.heap.size A2 n2 C) (hT:RdB tcn w w.heap.size A3 n3 T) (hP':RdB pcq w w.heap.size E1 m1 P') (hC':RdB cc w w.heap.size E2 m2 C') (hT':RdB tcn w w.heap.size E3 m3 T')
  (hp:∀ x∈P,RdB prc w w.heap.size x.1.pa x.1.pn x.2∧x.1.pn≤140737488351232) (hp':∀ x∈P',RdB prc w w.heap.size x.1.pa x.1.pn x.2) (ht:∀ t∈T,NdAt w w.heap.size t) (ht':∀ t∈T',NdAt w w.heap.size t) (q1:n1≤140737488351232) (q2:n2≤140737488351232) (q3:n3≤140737488351232) :
  Calls Tryz.prog 20 #[.agg #[.slice A1 n1 c1,.slice A2 n2 c2,.slice A3 n3 c3],.agg #[.slice E1 m1 d1,.slice E2 m2 d2,.slice E3 m3 d3]] w (Ans (.bool (sameF P C T P' C' T')) w):=by
 have g0:=bl1 w (.cells #[.slice A1 n1 c1,.slice A2 n2 c2,.slice A3 n3 c3] 31)
 have g1:=g0.trans ((bl1 _ (.cells #[.slice E1 m1 d1,.slice E2 m2 d2,.slice E3 m3 d3] 31)).mono g0.size)
 have HNO:=Lib.hid (fun h=>sameF_no h:¬ SameC P C T P' C' T'→sameF P C T P' C' T'=false)
 have HYES:=Lib.hid (fun h=>sameF_yes h:SameC P C T P' C' T'→sameF P C T P' C' T'=true)
 generalize sameF P C T P' C' T'=v at HNO HYES ⊢
 have HB:=Lib.hid g1
 have HT:=Lib.hid hT
 have HT':=Lib.hid hT'
 have HTT:=Lib.hid ht
 have HTT':=Lib.hid ht'
 have HBU:=Lib.hid fun (W':World) (hb:Below w.heap.size w W')=>rbut_any A1 A2 A3 E1 E2 E3 n1 n2 n3 c1 c2 c3 m1 m2 m3 d1 d2 d3 P P' C C' W' (hP.on hb) (hC.on hb) (hP'.on hb) (hC'.on hb) (fun x hx=>⟨(hp x hx).1.on hb,(hp x hx).2⟩) (fun x hx=>(hp' x hx).on hb) q1 q2
 have HB1:Hid (butF P C P' C'=true→SameB P C P' C'):=Lib.hid fun h=>by
  unfold butF at h
  classical exact of_decide_eq_true h
 have HB2:Hid (butF P C P' C'=false→¬ SameB P C P' C'):=Lib.hid fun h=>by
  unfold butF at h
  classical exact of_decide_eq_false h
 generalize butF P C P' C'=q at HBU HB1 HB2
 clear g0 g1 hP hC hP' hC' hp hp' hT hT' ht ht'
 go_enter Tryz.func20,Tryz.ntmps20
 have o0:∀ (k:Nat) (v:Value),(#[Value.slice A1 n1 c1,.slice A2 n2 c2,.slice A3 n3 c3]:Array Value)[k]? = some v→((w.alloc (.cells #[.slice A1 n1 c1,.slice A2 n2 c2,.slice A3 n3 c3] 31)).alloc (.cells #[.slice E1 m1 d1,.slice E2 m2 d2,.slice E3 m3 d3] 31)).cell? ⟨w.heap.size,k,none⟩=some v:=by
  intro k v hv
  rw [(bl1 _ _).cell (by simp)]
  exact (World.cell?_alloc_mark _ _ _ _ _).trans hv
 have e:(w.alloc (.cells #[.slice A1 n1 c1,.slice A2 n2 c2,.slice A3 n3 c3] 31)).heap.size=w.heap.size+1:=by simp
 have p0:∀ (k:Nat) (v:Value),(#[Value.slice E1 m1 d1,.slice E2 m2 d2,.slice E3 m3 d3]:Array Value)[k]? = some v→((w.alloc (.cells #[.slice A1 n1 c1,.slice A2 n2 c2,.slice A3 n3 c3] 31)).alloc (.cells #[.slice E1 m1 d1,.slice E2 m2 d2,.slice E3 m3 d3] 31)).cell? ⟨w.heap.size+1,k,none⟩=some v:=by
  intro k v hv
  rw [← e]
  exact (World.cell?_alloc_mark _ _ _ _ _).trans hv
 have hgs:w.heap.size+1 < ((w.alloc (.cells #[.slice A1 n1 c1,.slice A2 n2 c2,.slice A3 n3 c3] 31)).alloc (.cells #[.slice E1 m1 d1,.slice E2 m2 d2,.slice E3 m3 d3] 31)).heap.size:=by simp
 clear e
 have O:=Lib.hid o0
 have P0:=Lib.hid p0
 clear o0 p0
 go_wp2_with fail
 refine (HBU.out _ HB.out).mono ?_
 rintro e w2 ⟨rfl,hb2⟩
 generalize (w.alloc (.cells #[.slice A1 n1 c1,.slice A2 n2 c2,.slice A3 n3 c3] 31)).alloc (.cells #[.slice E1 m1 d1,.slice E2 m2 d2,.slice E3 m3 d3] 31)=W at HB O P0 hgs hb2
 obtain ⟨g,hg⟩:∃ g,g=w.heap.size:=⟨_,rfl⟩
 rw [← hg] at O P0 hgs ⊢
 have HG:=Lib.hid hg
 clear hg
 obtain ⟨g2,hg2⟩:∃ g2,g2=g+1:=⟨_,rfl⟩
 rw [← hg2] at P0 hgs ⊢
 have HG2:=Lib.hid hg2
 have hgl:g < W.heap.size:=by omega
 clear hg2
 have HM:=Lib.hid fun (W':World) (hb:Below W.heap.size W W') (o:Nat) (v:Value) (hv:(#[Value.slice A1 n1 c1,.slice A2 n2 c2,.slice A3 n3 c3]:Array Value)[o]? = some v)=>(hb.cell (p:=⟨g,o,none⟩) hgl).trans (O.out o v hv)
 have HM2:=Lib.hid fun (W':World) (hb:Below W.heap.size W W') (o:Nat) (v:Value) (hv:(#[Value.slice E1 m1 d1,.slice E2 m2 d2,.slice E3 m3 d3]:Array Value)[o]? = some v)=>(hb.cell (p:=⟨g2,o,none⟩) hgs).trans (P0.out o v hv)
 have HW:=Lib.hid fun (W':World) (hb:Below W.heap.size W W')=>HB.out.trans (hb.mono HB.out.size)
 have H2:=Lib.hid hb2
 clear O P0 hb2
 cases q
 ·have HV:=Lib.hid (HNO.out fun h=>HB2.out rfl h.1)
  clear HNO HYES HB1 HB2 HBU
  go_wp2_with fail
  go_ret
  exact Ans.mk (by rw [HV.out];rfl) (HW.out _ H2.out)
 have HBB:=Lib.hid (HB1.out rfl)
 clear HB1 HB2 HBU
 have a2:=HM.out w2 H2.out 2 _ rfl
 have b2:=HM2.out w2 H2.out 2 _ rfl
 by_cases k1:n3=m3
 case neg =>
  have hq1:((n3:Int) != (m3:Int))=true:=bne_iff_ne.2 (by omega)
  have HV:=Lib.hid (HNO.out fun h=>k1 (by rw [← HT.out.len,← HT'.out.len];exact h.2.1))
  clear HNO HYES k1
  go_wp2_with fail
  go_ret
  exact Ans.mk (by rw [HV.out];rfl) (HW.out _ H2.out)
 subst k1
 go_wp2_with fail
 clear a2 b2
 go_loopw [5,22] (fun _ s wr=>∃ i:Nat,i≤n3∧s=.int .i64 i∧(∀ k,k < i→∀ x y,T[k]? = some x→T'[k]? = some y→sameN x.l y.l=true)∧Below W.heap.size W wr) (fun _ s _=>n3 - (intOf s).toNat)
 case atStart=>exact ⟨0,by omega,rfl,fun k hk=>by omega,H2.out⟩
 case round =>
  obtain ⟨i,hi,rfl,hok,hb⟩:=hrel
  have HOK:=Lib.hid hok
  clear hok
  by_cases hlt:i < n3
  ·have m0:=HM.out wr hb 2 _ rfl
   have m0':=HM2.out wr hb 2 _ rfl
   obtain ⟨ad,x,rfl,had,hx,c0,ck⟩:=(HT.out.on (HW.out _ hb)).at_ tcn_len (by omega) hlt
   have c0:=c0 _ rfl
   obtain ⟨ad2,y,rfl,had2,hy,e0,ek⟩:=(HT'.out.on (HW.out _ hb)).at_ tcn_len (by omega) hlt
   have e0:=e0 _ rfl
   rw [Nat.mul_one] at c0 e0
   have HPX:=HTT.out x (List.mem_of_getElem? hx)
   have HPY:=HTT'.out y (List.mem_of_getElem? hy)
   have HSP:=Lib.hid fun (W':World) (hb':Below w.heap.size w W')=>rnodes_any x.A y.A x.n y.n x.c y.c x.l y.l W' (HPX.rd.on hb') (HPY.rd.on hb') HPX.few
   have HNX:Hid (sameN x.l y.l=true→∀ k,k < i+1→∀ x y,T[k]? = some x→T'[k]? = some y→sameN x.l y.l=true):=Lib.hid fun h=>lt_more (p:=fun k=>∀ x y,T[k]? = some x→T'[k]? = some y→sameN x.l y.l=true) HOK.out fun x' y' hx' hy'=>by
    rw [hx] at hx'
    rw [hy] at hy'
    injection hx' with hx'
    injection hy' with hy'
    subst hx' hy'
    exact h
   have HBD:Hid (sameN x.l y.l=false→v=false):=Lib.hid fun h=>HNO.out fun k=>by rw [k.2.2 i x y hx hy] at h;cases h
   obtain ⟨A,n,c,l⟩:=x
   obtain ⟨A',n',c',l'⟩:=y
   dsimp only at c0 e0 HSP HNX HBD
   have HBW:=Lib.hid (HW.out _ hb)
   have HBR:=Lib.hid hb
   generalize sameN l l'=q at HSP HNX HBD
   clear ck ek hx hy had had2 HPX HPY HOK hb
   go_wp2_with fail
   go_quiet ((go_at_call 21;exact Qui.one (HSP.out _ (by first | exact HBW.out | exact HBW.out.drew | exact Below.drewN HBW.out _))))
   cases q
   ·have HV:=Lib.hid (HBD.out rfl)
    clear HBD HNX HSP HNO HYES
    go_wp2_with fail
    go_ret
    exact Ans.mk (by rw [HV.out];rfl) (Below.drewN HBW.out nq)
   ·have HNX2:=Lib.hid (HNX.out rfl)
    clear HBD HNX HSP
    go_wp2_with fail
    go_roundw
    case rel=>exact ⟨i+1,by omega,by go_num,HNX2.out,Below.drewN HBR.out nq⟩
    case measure=>simp [intOf];omega
  ·have hge:n3≤i:=by omega
   have HV:=Lib.hid (HYES.out ⟨HBB.out,by rw [HT.out.len,HT'.out.len],fun k x y hx hy=>HOK.out k (by have:=(List.getElem?_eq_some_iff.1 hx).1;have:=HT.out.len;omega) x y hx hy⟩)
   clear HOK HNO HYES
   go_wp2_with fail
   go_ret
   exact Ans.mk (by rw [HV.out];rfl) (HW.out _ hb)
end Go.Proofs.YtfmndmhjjbeokaaGreatDoor
namespace Go.Proofs.YtfmndmhjjbeokaaGreatDoor
open Go.RowKit Tab
set_option linter.unusedSimpArgs false
set_option linter.unusedVariables false
structure Cf where
 A1:Option Addr
 A2:Option Addr
 A3:Option Addr
 n1:Nat
 n2:Nat
 n3:Nat
 c1:Nat
 c2:Nat
 c3:Nat
 P:List Pq
 C:List ChV
 T:List NdT
abbrev cfv (x:Cf):Value:=.agg #[.slice x.A1 x.n1 x.c1,.slice x.A2 x.n2 x.c2,.slice x.A3 x.n3 x.c3]
def SizX (x:Cf):Prop:=x.n1*104≤140737488351232∧x.n2*48≤140737488351232∧x.n3*24≤140737488351232∧(∀ y∈x.P,y.1.pn*16≤140737488351232)∧∀ y∈x.T,y.n*24≤140737488351232
structure CfR (w:World) (x:Cf):Prop where
 pp:RdB pcq w w.heap.size x.A1 x.n1 x.P
 ch:RdB cc w w.heap.size x.A2 x.n2 x.C
 tb:RdB tcn w w.heap.size x.A3 x.n3 x.T
 pt:∀ y∈x.P,PtAx w w.heap.size y∧y.1.pn≤y.1.pc∧y.1.pn≤140737488351232
 tt:∀ y∈x.T,NdAt w w.heap.size y
 k1:x.n1≤x.c1
 k2:x.n2≤x.c2
 k3:x.n3≤x.c3
 m1:x.n1≤140737488351232
 m2:x.n2≤140737488351232
 m3:x.n3≤140737488351232
 z:SizX x
theorem CfR.on {w w':World} {x:Cf} (h:CfR w x) (hb:Below w.heap.size w w'):CfR w' x :=
 ⟨h.pp.on hb,h.ch.on hb,h.tb.on hb,fun y hy=>⟨(h.pt y hy).1.on hb,(h.pt y hy).2⟩,fun y hy=>(h.tt y hy).on hb,h.k1,h.k2,h.k3,h.m1,h.m2,h.m3,h.z⟩
noncomputable def whF (x:Cf):Int×Int:=whereF x.P x.C x.T
def SamX (x y:Cf):Prop:=SameC x.P x.C x.T y.P y.C y.T
theorem SameP.symm {x y:Pq} (h:SameP x y):SameP y x:=by
 obtain ⟨h1,h2,h3,h4,h5,⟨h6,h7,h8,h9,h10⟩,h11⟩:=h
 exact ⟨h1.symm,h2.symm,h3.symm,h4.symm,h5.symm,⟨h6.symm,h7.symm,h8.symm,h9.symm,h10.symm⟩,h11.symm⟩
theorem SameP.refl (x:Pq):SameP x x:=⟨rfl,rfl,rfl,rfl,rfl,⟨rfl,rfl,rfl,rfl,rfl⟩,rfl⟩
theorem nd_eta {x y:Nd} (h:ndEq x y=true):x=y:=by
 obtain ⟨a,b,c⟩:=x
 obtain ⟨d,e,f⟩:=y
 unfold ndEq at h
 simp at h
 obtain ⟨⟨h1,h2⟩,h3⟩:=h
 subst h1 h2 h3
 rfl
theorem sameN_eq:∀ {a b:List Nd},sameN a b=true→a=b
 | [],[],_=>rfl
 | [],_::_,h=>by simp [sameN] at h
 | _::_,[],h=>by simp [sameN] at h
 | x::a,y::b,h=>by
  simp only [sameN,Bool.and_eq_true] at h
  rw [nd_eta h.1,sameN_eq h.2]
theorem sameN_refl:∀ a:List Nd,sameN a a=true
 | []=>rfl
 | x::a=>by simp [sameN,ndEq,sameN_refl a]
theorem SamX.symm {x y:Cf} (h:SamX x y):SamX y x:=by
 obtain ⟨⟨h1,h2,h3⟩,h4,h5⟩:=h
 exact ⟨⟨h1.symm,fun i a b ha hb=>(h2 i b a hb ha).symm,h3.symm⟩,h4.symm,fun i a b ha hb=>by rw [sameN_eq (h5 i b a hb ha)];exact sameN_refl _⟩
theorem SamX.refl (x:Cf):SamX x x:=⟨⟨rfl,fun i a b ha hb=>by rw [ha] at hb;injection hb with hb;subst hb;exact SameP.refl a,rfl⟩,rfl,fun i a b ha hb=>by rw [ha] at hb;injection hb with hb;subst hb;exact sameN_refl _⟩
theorem CfR.rsame {w:World} {x y:Cf} (hx:CfR w x) (hy:CfR w y):Calls Tryz.prog 20 #[cfv x,cfv y] w (Ans (.bool (sameF x.P x.C x.T y.P y.C y.T)) w) :=
 rsamec_any x.A1 x.A2 x.A3 y.A1 y.A2 y.A3 x.n1 x.n2 x.n3 x.c1 x.c2 x.c3 y.n1 y.n2 y.n3 y.c1 y.c2 y.c3 x.P y.P x.C y.C x.T y.T w hx.pp hx.ch hx.tb hy.pp hy.ch hy.tb (fun z hz=>⟨(hx.pt z hz).1.procs,(hx.pt z hz).2.2⟩) (fun z hz=>(hy.pt z hz).1.procs) hx.tt hy.tt hx.m1 hx.m2 hx.m3
structure CfO (w:World) (B:Nat) (x:Cf):Prop where
 pp:OwnV 60 11 w B x.A1 x.n1 x.c1 (x.P.flatMap pcq)
 ch:OwnV 66 6 w B x.A2 x.n2 x.c2 (x.C.flatMap cc)
 tb:OwnV 34 1 w B x.A3 x.n3 x.c3 (x.T.flatMap tcn)
 pt:∀ y∈x.P,OwnV 62 2 w B y.1.pa y.1.pn y.1.pc (y.2.flatMap prc)∧∀ k,obk y.1.pa=some k→obk x.A1≠some k∧obk x.A2≠some k∧obk x.A3≠some k
 tt:∀ y∈x.T,OwnV 54 3 w B y.A y.n y.c (ns y.l)∧∀ k,obk y.A=some k→obk x.A1≠some k∧obk x.A2≠some k∧obk x.A3≠some k
 d12:∀ k,obk x.A1=some k→obk x.A2≠some k
 d13:∀ k,obk x.A1=some k→obk x.A3≠some k
 d23:∀ k,obk x.A2=some k→obk x.A3≠some k
 dp:∀ (i j:Nat) (a b:Pq),x.P[i]? = some a→x.P[j]? = some b→i≠j→∀ k,obk a.1.pa=some k→obk b.1.pa≠some k
 dt:∀ (i j:Nat) (a b:NdT),x.T[i]? = some a→x.T[j]? = some b→i≠j→∀ k,obk a.A=some k→obk b.A≠some k
 dq:∀ (i j:Nat) (a:Pq) (b:NdT),x.P[i]? = some a→x.T[j]? = some b→∀ k,obk a.1.pa=some k→obk b.A≠some k
def CpV (x:Cf) (v:Value) (w:World):Prop:=∃ y,v=cfv y∧CfR w y∧SamX y x
theorem CpV.on {x:Cf} {v:Value} {w w':World} (h:CpV x v w) (hb:Below w.heap.size w w'):CpV x v w':=by
 obtain ⟨y,h1,h2,h3⟩:=h
 exact ⟨y,h1,h2.on hb,h3⟩
end Go.Proofs.YtfmndmhjjbeokaaGreatDoor
