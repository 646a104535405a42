import Derived.Test.YtfmndmhjjbeokaaGreatDoorLow43
import Derived.OpenShut
import Derived.Test.YtfmndmhjjbeokaaGreatDoorLow33
import Derived.Deep.RegionWith
namespace Go.Proofs.YtfmndmhjjbeokaaGreatDoor
open Go.RowKit Tab
set_option linter.unusedSimpArgs false
set_option linter.unusedVariables false
theorem lateL_ge (W:List Int) (p q:Int):-1≤lateL W p q:=by
 unfold lateL
 split
 ·omega
 ·split <;> omega
set_option maxRecDepth 100000 in
set_option maxHeartbeats 1600000 in
theorem blt_any (A:Option Addr) (n c:Nat) (L:List Rn) (xf xt:Int) (xq:Bool) (xc xm xl:Int) (w:World) (h:RdR w w.heap.size A n L) (hc:n≤c) (hn:n≤1048576) (ht:ticks L≤1099511627776) :
  Calls Tryz.prog 142 #[.slice A n c,.agg #[.int .i64 xf,.int .i64 xt,.bool xq,.int .i64 xc,.int .u32 xm,.int .i64 xl]] w (Ans (.bool (decide (lateL (wordsL L) xf xt < 0) || decide (xl < lateL (wordsL L) xf xt))) w):=by
 have hbx:=bl1 w (.cells #[.int .i64 xf,.int .i64 xt,.bool xq,.int .i64 xc,.int .u32 xm,.int .i64 xl] 66)
 have HLT:=Lib.hid (blate_any A n c L xf xt _ (h.on hbx) hc hn ht)
 have hge:=lateL_ge (wordsL L) xf xt
 have HB1:=Lib.hid hbx
 generalize lateL (wordsL L) xf xt=z at HLT hge ⊢
 clear hbx h
 go_enter Tryz.func142,Tryz.ntmps142
 go_wp2_with fail
 refine HLT.out.mono ?_
 rintro e w5 ⟨rfl,hb5⟩
 have e5:w5.cell? ⟨w.heap.size,5,none⟩=some (.int .i64 xl):=(hb5.cell (p:=⟨w.heap.size,5,none⟩) (by simp)).trans (World.cell?_alloc_mark _ _ _ _ _)
 have HB5:=Lib.hid (HB1.out.trans (hb5.mono HB1.out.size))
 generalize w.heap.size=gx at e5 ⊢
 clear hb5 HLT HB1
 by_cases t2:z=-1
 ·subst t2
  go_wp2_with fail
  go_ret
  exact Ans.mk rfl HB5.out
 ·have u2:(z == -1)=false:=beq_eq_false_iff_ne.2 t2
  have u4:decide (z < 0)=false:=decide_eq_false (by omega)
  have HU4:=Lib.hid u4
  obtain ⟨bb,hbb⟩:∃ bb,bb=decide (xl < z):=⟨_,rfl⟩
  have HBB:=Lib.hid hbb
  clear hbb
  cases bb with
  | true =>
   have u3:decide (xl < z)=true:=HBB.out.symm
   go_wp2_with fail
   go_ret
   exact Ans.mk (by rw [HU4.out,Bool.false_or,← HBB.out];rfl) HB5.out
  | false =>
   have u3:decide (xl < z)=false:=HBB.out.symm
   go_wp2_with fail
   go_ret
   exact Ans.mk (by rw [HU4.out,Bool.false_or,← HBB.out];rfl) HB5.out
set_option maxRecDepth 100000 in
set_option maxHeartbeats 4000000 in
theorem bholds_any (A1 A2 A3 A4:Option Addr) (n1 n2 n3 n4 c1 c2 c3 c4:Nat) (P:List PtV) (C:List ChV) (L:List Rn) (w:World) (hP:RdB pcl w w.heap.size A1 n1 P) (hC:RdB cc w w.heap.size A2 n2 C) (hL:RdR w w.heap.size A4 n4 L)
  (q1:n1≤1048576) (q2:n2≤1048576) (q4:n4≤c4) (q5:n4≤1048576) (ht:ticks L≤1099511627776) (hz:∀ x∈P,In64 x.per) :
  Calls Tryz.prog 126 #[.agg #[.slice A1 n1 c1,.slice A2 n2 c2,.slice A3 n3 c3],.slice A4 n4 c4] w (Ans (.int .i64 (holdsF (wordsL L) P C)) w):=by
 have hb0:=bl1 w (.cells #[.slice A1 n1 c1,.slice A2 n2 c2,.slice A3 n3 c3] 31)
 have hP0:=hP.on hb0
 have hC0:=hC.on hb0
 have hL0:=hL.on hb0
 have m0:(w.alloc (.cells #[.slice A1 n1 c1,.slice A2 n2 c2,.slice A3 n3 c3] 31)).cell? ⟨w.heap.size,0,none⟩=some (.slice A1 n1 c1):=World.cell?_alloc_mark _ _ _ _ _
 have hgs:w.heap.size < (w.alloc (.cells #[.slice A1 n1 c1,.slice A2 n2 c2,.slice A3 n3 c3] 31)).heap.size:=by simp
 have HZ:=Lib.hid hz
 obtain ⟨R,hR⟩:∃ R,R=holdsF (wordsL L) P C:=⟨_,rfl⟩
 rw [← hR]
 obtain ⟨X,hX⟩:∃ X,X=wordsL L:=⟨_,rfl⟩
 rw [← hX] at hR
 have HR:=Lib.hid hR
 have HX:=Lib.hid hX
 have hPl:=hP.len
 have hCl:=hC.len
 have HPL:=Lib.hid hPl
 have HCL:=Lib.hid hCl
 clear hP hC hL hz hR hX hPl hCl
 go_enter Tryz.func126,Tryz.ntmps126
 go_wp2_with fail
 generalize w.alloc (.cells #[.slice A1 n1 c1,.slice A2 n2 c2,.slice A3 n3 c3] 31)=W at hb0 hP0 hC0 hL0 m0 hgs ⊢
 obtain ⟨g,hg⟩:∃ g,g=w.heap.size:=⟨_,rfl⟩
 rw [← hg] at m0 hgs ⊢
 have HG:=Lib.hid hg
 have HM0:=Lib.hid m0
 clear hg m0
 go_loopw [6,12] (fun _ s wr=>∃ i:Nat,i≤n2∧s=.int .i64 i∧(C.take i).any (chLate X)=false∧Below W.heap.size W wr) (fun _ s _=>n2 - (intOf s).toNat)
 case atStart=>exact ⟨0,by omega,rfl,rfl,Below.refl _ _⟩
 case round =>
  obtain ⟨i,hi,rfl,hany,hb⟩:=hrel
  have HANY:=Lib.hid hany
  clear hany
  by_cases hlt:i < n2
  ·obtain ⟨ad,x,rfl,had,hx,c0,ck⟩:=(hC0.on hb).at_ cc_len (by omega) hlt
   have d0:=c0 _ rfl
   have d1:=ck 1 _ (by omega) rfl
   have d2:=ck 2 _ (by omega) rfl
   have d3:=ck 3 _ (by omega) rfl
   have d4:=ck 4 _ (by omega) rfl
   have d5:=ck 5 _ (by omega) rfl
   have HMORE:=Lib.hid (any_more (chLate X) hx)
   have HMEM:=Lib.hid (any_mem (chLate X) hx)
   obtain ⟨xf,xt,xq,xc,xm,xl⟩:=x
   dsimp only at d0 d1 d2 d3 d4 d5
   have hbx:=bl1 wr (.cells #[.int .i64 xf,.int .i64 xt,.bool xq,.int .i64 xc,.int .u32 xm,.int .i64 xl] 66)
   have hb1:=hb.trans (hbx.mono hb.size)
   have HLT:=Lib.hid (blt_any A4 n4 c4 L xf xt xq xc xm xl _ (hL0.on hb1) q4 q5 ht)
   have HB1:=Lib.hid hb1
   clear c0 ck hx hbx hb1
   rw [← HX.out] at HLT
   have hcl:chLate X ⟨xf,xt,xq,xc,xm,xl⟩=(decide (0 < xl) && (decide (lateL X xf xt < 0) || decide (xl < lateL X xf xt))):=rfl
   generalize (decide (lateL X xf xt < 0) || decide (xl < lateL X xf xt))=z at hcl HLT
   have HCL2:=Lib.hid hcl
   clear hcl
   by_cases t1:0 < xl
   ·have u1:decide (0 < xl)=true:=decide_eq_true t1
    go_wp2_with fail
    refine HLT.out.mono ?_
    rintro e w5 ⟨rfl,hb5⟩
    have HB5:=Lib.hid (HB1.out.trans (hb5.mono HB1.out.size))
    clear hb5 HLT HB1 d0 d1 d2 d3 d4 d5
    cases z with
    | true =>
     have hres:R=19:=by
      rw [HR.out]
      exact holdsF_late (HMEM.out (by rw [HCL2.out,u1];rfl))
     subst hres
     go_wp2_with fail
     go_ret
     exact Ans.mk rfl (hb0.trans (HB5.out.mono hb0.size))
    | false =>
     have HN:Hid ((C.take (i+1)).any (chLate X)=false):=Lib.hid (by rw [HMORE.out,HANY.out,HCL2.out,u1];rfl)
     go_wp2_with fail
     go_roundw
     case rel=>exact ⟨i+1,by omega,by go_num,HN.out,HB5.out⟩
     case measure=>simp [intOf];omega
   ·have u1:decide (0 < xl)=false:=decide_eq_false t1
    have HN:Hid ((C.take (i+1)).any (chLate X)=false):=Lib.hid (by rw [HMORE.out,HANY.out,HCL2.out,u1];rfl)
    clear HLT
    go_wp2_with fail
    go_roundw
    case rel=>exact ⟨i+1,by omega,by go_num,HN.out,HB1.out⟩
    case measure=>simp [intOf];omega
  ·have hge:n2≤i:=by omega
   have HALL:Hid (C.any (chLate X)=false):=Lib.hid (by
    have h:=HANY.out
    rw [List.take_of_length_le (by rw [HCL.out];exact hge)] at h
    exact h)
   clear HANY
   have m0:=(hb.cell (p:=⟨g,0,none⟩) hgs).trans HM0.out
   go_wp2_with fail
   go_loopw [7,8,28] (fun _ _ s wx=>∃ j:Nat,j≤n1∧s=.int .i64 j∧shortF X 0 (P.take j)=false∧Below W.heap.size W wx) (fun _ _ s _=>n1 - (intOf s).toNat)
   case atStart=>exact ⟨0,by omega,rfl,rfl,hb⟩
   case round =>
    obtain ⟨j,hj,rfl,hsh,hb⟩:=hrel
    have HSH:=Lib.hid hsh
    clear hsh
    by_cases hlt:j < n1
    ·obtain ⟨ad,x,rfl,had,hx,c0,ck⟩:=(hP0.on hb).at_ pcl_len (by omega) hlt
     have d0:=c0 _ rfl
     have d1:=ck 1 _ (by omega) rfl
     have d2:=ck 2 _ (by omega) rfl
     have d3:=ck 3 _ (by omega) rfl
     have d4:=ck 4 _ (by omega) rfl
     have d5:=ck 5 _ (by omega) rfl
     have d6:=ck 6 _ (by omega) rfl
     have d7:=ck 7 _ (by omega) rfl
     have d8:=ck 8 _ (by omega) rfl
     have d9:=ck 9 _ (by omega) rfl
     have d10:=ck 10 _ (by omega) rfl
     have hzx:=HZ.out x (List.mem_of_getElem? hx)
     have HSM:=Lib.hid (short_more (W:=X) hx)
     have HSE:=Lib.hid (short_mem (W:=X) hx)
     obtain ⟨nm,bu,pe,sc,st,pa,pn,pc,h0,h1,h2,h3,h4⟩:=x
     dsimp only at d0 d1 d2 d3 d4 d5 d6 d7 d8 d9 d10 hzx
     have hbx:=bl1 wr (.cells #[.string nm,.int .i64 bu,.int .i64 pe,.bool sc,.bool st,.slice pa pn pc,.int .i64 h0,.int .i64 h1,.int .i64 h2,.int .i64 h3,.int .i64 h4] 60)
     have hb1:=hb.trans (hbx.mono hb.size)
     have f1:(wr.alloc (.cells #[.string nm,.int .i64 bu,.int .i64 pe,.bool sc,.bool st,.slice pa pn pc,.int .i64 h0,.int .i64 h1,.int .i64 h2,.int .i64 h3,.int .i64 h4] 60)).cell? ⟨wr.heap.size,1,none⟩=some (.int .i64 bu):=World.cell?_alloc_mark _ _ _ _ _
     have f2:(wr.alloc (.cells #[.string nm,.int .i64 bu,.int .i64 pe,.bool sc,.bool st,.slice pa pn pc,.int .i64 h0,.int .i64 h1,.int .i64 h2,.int .i64 h3,.int .i64 h4] 60)).cell? ⟨wr.heap.size,2,none⟩=some (.int .i64 pe):=World.cell?_alloc_mark _ _ _ _ _
     have hgx:wr.heap.size < (wr.alloc (.cells #[.string nm,.int .i64 bu,.int .i64 pe,.bool sc,.bool st,.slice pa pn pc,.int .i64 h0,.int .i64 h1,.int .i64 h2,.int .i64 h3,.int .i64 h4] 60)).heap.size:=by simp
     clear c0 ck hx hbx
     go_wp2_with fail
     generalize wr.alloc (.cells #[.string nm,.int .i64 bu,.int .i64 pe,.bool sc,.bool st,.slice pa pn pc,.int .i64 h0,.int .i64 h1,.int .i64 h2,.int .i64 h3,.int .i64 h4] 60)=W2 at hb1 f1 f2 hgx ⊢
     generalize wr.heap.size=gx at f1 f2 hgx ⊢
     have HB1:=Lib.hid hb1
     clear d0 d1 d2 d3 d4 d5 d6 d7 d8 d9 d10 hb1 had
     by_cases hbu:0 < bu
     ·have hbd:decide (0 < bu)=true:=decide_eq_true hbu
      have HBG:Hid (Calls Tryz.prog 143 #[.slice A4 n4 c4,.int .i64 (j:Int),.int .i64 pe] W2.drew fun e w5=>e=.returned (.int .i64 (budL (wordsL L) (j:Int) pe))∧Below W2.heap.size W2 w5∧w5.cell? ⟨gx,1,none⟩=some (.int .i64 bu)∧w5.cell? ⟨gx,2,none⟩=some (.int .i64 pe)):=Lib.hid (by
       refine (bbudget_any A4 n4 c4 L (j:Int) pe W2.drew ((hL0.on HB1.out).below (Below.refl _ _).drew) q4 q5 ht hzx).mono ?_
       rintro e w5 ⟨rfl,hb5⟩
       have hb6:Below W2.heap.size W2 w5:=⟨hb5.os,hb5.tape,hb5.output,hb5.size,hb5.block⟩
       exact ⟨rfl,hb6,(hb6.cell (p:=⟨gx,1,none⟩) hgx).trans f1,(hb6.cell (p:=⟨gx,2,none⟩) hgx).trans f2⟩)
      rw [← HX.out] at HBG
      have hps:ptShort X j ⟨nm,bu,pe,sc,st,pa,pn,pc,h0,h1,h2,h3,h4⟩=(decide (0 < bu) && decide (budL X (j:Int) pe < bu)):=rfl
      generalize budL X (j:Int) pe=z at HBG hps
      rw [hbd,Bool.true_and] at hps
      have HPS:=Lib.hid hps
      clear hps
      go_region_with (go_at_call 143;refine HBG.out.mono ?_;rintro e w5 ⟨rfl,hb5,g1,g2⟩)
      all_goals
       by_cases t2:z < bu
       ·have u2:decide (z < bu)=true:=decide_eq_true t2
        have hres:R=20:=by
         rw [HR.out]
         exact holdsF_short HALL.out (HSE.out (by rw [HPS.out];exact u2))
        subst hres
        go_wp2_with fail
        go_ret
        exact Ans.mk rfl (hb0.trans ((HB1.out.trans (hb5.mono HB1.out.size)).mono hb0.size))
       ·have u2:decide (z < bu)=false:=decide_eq_false t2
        have HN:Hid (shortF X 0 (P.take (j+1))=false):=Lib.hid (by rw [HSM.out,HSH.out,HPS.out,u2];rfl)
        go_wp2_with fail
        go_roundw
        case rel=>exact ⟨j+1,by omega,by go_num,HN.out,HB1.out.trans (hb5.mono HB1.out.size)⟩
        case measure=>simp [intOf];omega
     ·have hbd:decide (0 < bu)=false:=decide_eq_false hbu
      have hps:ptShort X j ⟨nm,bu,pe,sc,st,pa,pn,pc,h0,h1,h2,h3,h4⟩=(decide (0 < bu) && decide (budL X (j:Int) pe < bu)):=rfl
      rw [hbd,Bool.false_and] at hps
      have HN:Hid (shortF X 0 (P.take (j+1))=false):=Lib.hid (by rw [HSM.out,HSH.out,hps];rfl)
      clear hps
      go_quiet (fail)
      go_wp2_with fail
      go_roundw
      case rel=>exact ⟨j+1,by omega,by go_num,HN.out,Below.drewN HB1.out nq⟩
      case measure=>simp [intOf];omega
    ·have hge:n1≤j:=by omega
     have hres:R=0:=by
      rw [HR.out]
      refine holdsF_ok HALL.out ?_
      have h:=HSH.out
      rw [List.take_of_length_le (by rw [HPL.out];exact hge)] at h
      exact h
     subst hres
     go_wp2_with fail
     go_ret
     exact Ans.mk rfl (hb0.trans (hb.mono hb0.size))
end Go.Proofs.YtfmndmhjjbeokaaGreatDoor
namespace Go.Proofs.YtfmndmhjjbeokaaGreatDoor
open Go.RowKit Tab
set_option linter.unusedSimpArgs false
set_option linter.unusedVariables false
def paF (P:List Pq) (x:Pq):Int:=if (!nameF x.1.name || P.any (fun y=>decide (y.1.name=x.1.name)))=true then 15 else if partF x.1 x.2=true then 0 else 16
theorem paF_ptW (P:List Pq) (i:Nat) (x:Pq):paF (P.take i) x=ptW P i x:=rfl
set_option maxRecDepth 100000 in
set_option maxHeartbeats 4000000 in
theorem prt_any (x:Pq) (A:Option Addr) (n c:Nat) (P:List Pq) (w:World) (hx:RdB prc w w.heap.size x.1.pa x.1.pn x.2) (hs:x.1.name.size≤140737488351232) (hP:RdB pcq w w.heap.size A n P) (hn:n≤1048576) :
  Calls Tryz.prog 94 #[pv x.1,.slice A n c] w (Ans (.int .i64 (paF P x)) w):=by
 have HV:Hid (paF P x=if (!nameF x.1.name || P.any (fun y=>decide (y.1.name=x.1.name)))=true then 15 else if (psF x.1.pn x.2 && ((List.range 5).all (fun j=>hlF (hv5 x.1 j)) && pbF x.1.bud x.1.per))=true then 0 else 16):=Lib.hid (by unfold paF;rw [partF_parts])
 generalize paF P x=v at HV ⊢
 have HNM:=Lib.hid fun V=>nm_any x.1.name V hs
 have HAH:=Lib.hid fun V (hv:Below w.heap.size w V)=>named_any A n c P x.1.name V (hP.on hv) hn
 have HPR:=Lib.hid fun V (hv:Below w.heap.size w V)=>procs_any x.1.pa x.1.pn x.1.pc x.2 V (hx.on hv)
 have HHE:=Lib.hid fun V=>health_any (hv5 x.1) V
 have HOW:=Lib.hid fun V=>owed_any x.1.bud x.1.per V
 generalize nameF x.1.name=q1 at HNM HV
 generalize (P.any fun y=>decide (y.1.name=x.1.name))=q2 at HAH HV
 generalize psF x.1.pn x.2=q3 at HPR HV
 generalize (List.range 5).all (fun j=>hlF (hv5 x.1 j))=q4 at HHE HV
 generalize pbF x.1.bud x.1.per=q5 at HOW HV
 obtain ⟨⟨nm,bu,pe,sc,st,pa,pn,pc,h0,h1,h2,h3,h4⟩,L⟩:=x
 dsimp only at HNM HAH HPR HOW
 have HHE:Hid (∀ V,Calls Tryz.prog 122 #[.agg #[.int .i64 h0,.int .i64 h1,.int .i64 h2,.int .i64 h3,.int .i64 h4]] V (Ans (.bool q4) V)):=HHE
 have hb0:=bl1 w (.cells #[.string nm,.int .i64 bu,.int .i64 pe,.bool sc,.bool st,.slice pa pn pc,.int .i64 h0,.int .i64 h1,.int .i64 h2,.int .i64 h3,.int .i64 h4] 60)
 have HC:Hid (∀ o v,(#[Value.string nm,.int .i64 bu,.int .i64 pe,.bool sc,.bool st,.slice pa pn pc,.int .i64 h0,.int .i64 h1,.int .i64 h2,.int .i64 h3,.int .i64 h4]:Array Value)[o]? = some v→(w.alloc (.cells #[.string nm,.int .i64 bu,.int .i64 pe,.bool sc,.bool st,.slice pa pn pc,.int .i64 h0,.int .i64 h1,.int .i64 h2,.int .i64 h3,.int .i64 h4] 60)).cell? ⟨w.heap.size,o,none⟩=some v):=Lib.hid fun o v hv=>(World.cell?_alloc_mark _ _ _ _ _).trans hv
 have hgs:w.heap.size < (w.alloc (.cells #[.string nm,.int .i64 bu,.int .i64 pe,.bool sc,.bool st,.slice pa pn pc,.int .i64 h0,.int .i64 h1,.int .i64 h2,.int .i64 h3,.int .i64 h4] 60)).heap.size:=by simp
 clear hx hs hP hn
 go_enter Tryz.func94,Tryz.ntmps94
 go_upto_region 1 with fail
 generalize w.alloc (.cells #[.string nm,.int .i64 bu,.int .i64 pe,.bool sc,.bool st,.slice pa pn pc,.int .i64 h0,.int .i64 h1,.int .i64 h2,.int .i64 h3,.int .i64 h4] 60)=W at hb0 HC hgs ⊢
 obtain ⟨g,hg⟩:∃ g,g=w.heap.size:=⟨_,rfl⟩
 rw [← hg] at HC hgs ⊢
 have HG:=Lib.hid hg
 have HM:=Lib.hid fun (W':World) (hb:Below W.heap.size W W') (o:Nat) (v:Value) (hv:(#[Value.string nm,.int .i64 bu,.int .i64 pe,.bool sc,.bool st,.slice pa pn pc,.int .i64 h0,.int .i64 h1,.int .i64 h2,.int .i64 h3,.int .i64 h4]:Array Value)[o]? = some v)=>(hb.cell (p:=⟨g,o,none⟩) hgs).trans (HC.out o v hv)
 have HW:=Lib.hid fun (W':World) (hb:Below W.heap.size W W')=>hb0.trans (hb.mono hb0.size)
 have m0:=HM.out W (Below.refl _ _) 0 _ rfl
 clear hg hb0 hgs HC
 go_wp2_with fail
 refine (HNM.out _).mono ?_
 rintro e w1 ⟨rfl,hb1⟩
 have HB1:=Lib.hid hb1
 clear m0 hb1
 have m0:=HM.out w1 HB1.out 0 _ rfl
 cases q1 with
 | false =>
  have E:Hid (v=15):=Lib.hid (by rw [HV.out];rfl)
  clear HV
  go_wp2_with fail
  go_ret
  exact Ans.mk (by rw [E.out];rfl) (HW.out _ HB1.out)
 | true =>
 have HV2:Hid (v=if q2=true then 15 else if (q3 && (q4 && q5))=true then 0 else 16):=Lib.hid HV.out
 have HA:=HAH.out w1 (HW.out _ HB1.out)
 clear HV
 go_wp2_with fail
 refine HA.mono ?_
 rintro e w2 ⟨rfl,hb2⟩
 have HB2:=Lib.hid (HB1.out.trans (hb2.mono HB1.out.size))
 clear m0 hb2 HA
 cases q2 with
 | true =>
  have E:Hid (v=15):=Lib.hid (by rw [HV2.out];rfl)
  clear HV2
  go_wp2_with fail
  go_ret
  exact Ans.mk (by rw [E.out];rfl) (HW.out _ HB2.out)
 | false =>
 have HV3:Hid (v=if (q3 && (q4 && q5))=true then 0 else 16):=Lib.hid HV2.out
 have m5:=HM.out w2 HB2.out 5 _ rfl
 have HP:=HPR.out w2 (HW.out _ HB2.out)
 clear HV2
 go_wp2_with fail
 refine HP.mono ?_
 rintro e w3 ⟨rfl,hb3⟩
 have HB3:=Lib.hid (HB2.out.trans (hb3.mono HB2.out.size))
 clear m5 hb3 HP
 cases q3 with
 | false =>
  have E:Hid (v=16):=Lib.hid (by rw [HV3.out];rfl)
  clear HV3
  go_wp2_with fail
  go_ret
  exact Ans.mk (by rw [E.out];rfl) (HW.out _ HB3.out)
 | true =>
 have HV4:Hid (v=if (q4 && q5)=true then 0 else 16):=Lib.hid HV3.out
 have m6:=HM.out w3 HB3.out 6 _ rfl
 have m7:=HM.out w3 HB3.out 7 _ rfl
 have m8:=HM.out w3 HB3.out 8 _ rfl
 have m9:=HM.out w3 HB3.out 9 _ rfl
 have m10:=HM.out w3 HB3.out 10 _ rfl
 clear HV3
 go_wp2_with fail
 refine (HHE.out w3).mono ?_
 rintro e w4 ⟨rfl,hb4⟩
 have HB4:=Lib.hid (HB3.out.trans (hb4.mono HB3.out.size))
 clear m6 m7 m8 m9 m10 hb4
 cases q4 with
 | false =>
  have E:Hid (v=16):=Lib.hid (by rw [HV4.out];rfl)
  clear HV4
  go_wp2_with fail
  go_ret
  exact Ans.mk (by rw [E.out];rfl) (HW.out _ HB4.out)
 | true =>
 have HV5:Hid (v=if q5=true then 0 else 16):=Lib.hid HV4.out
 have m1:=HM.out w4 HB4.out 1 _ rfl
 have m2:=HM.out w4 HB4.out 2 _ rfl
 clear HV4
 go_wp2_with fail
 refine (HOW.out w4).mono ?_
 rintro e w5 ⟨rfl,rfl⟩
 clear m1 m2
 cases q5 with
 | false =>
  have E:Hid (v=16):=Lib.hid (by rw [HV5.out];rfl)
  clear HV5
  go_wp2_with fail
  go_ret
  exact Ans.mk (by rw [E.out];rfl) (HW.out _ HB4.out)
 | true =>
  have E:Hid (v=0):=Lib.hid (by rw [HV5.out];rfl)
  clear HV5
  go_wp2_with fail
  go_ret
  exact Ans.mk (by rw [E.out];rfl) (HW.out _ HB4.out)
set_option maxRecDepth 100000 in
theorem pofx_any (t:NdT) (w:World) (h:NdAt w w.heap.size t):Calls Tryz.prog 125 #[.slice t.A t.n t.c] w (OfG (ofF t.l).1 (ofF t.l).2 w):=by
 have hl:=h.rd.len
 by_cases hb:128 < t.n
 ·have hn:¬ (3:Int)=0:=by decide
  rw [ofF_big (by rw [hl];exact hb)]
  refine (of_wrong t.A t.n t.c w _ ?_ hn).mono fun _ _ k=>ofg_some hn k
  have h1':(128:Int) < (t.n:Int):=by omega
  clear h hl hb
  go_enter Tryz.func36,Tryz.ntmps36
  go_wp2_with fail
  go_ret
  exact Ans.mk rfl (Below.refl _ _)
 by_cases hw:wholeB t.l=true
 ·obtain ⟨x,k,hok,he,e⟩:=ofF_whole hw
  rw [e]
  have hr:=h.rd
  rw [he] at hr hl ⊢
  rw [hl]
  exact of_any t.A t.n t.c x k w hr h.cap hok (by omega)
 ·have hw':wholeB t.l=false:=by simpa using hw
  rw [ofF_none hw,hl]
  have hn:¬ rn t.n=0:=by unfold rn;split <;> omega
  exact (of_wrong t.A t.n t.c w _ (right_none t.A t.n t.c t.l w h.rd h.cap (by omega) hw') hn).mono fun _ _ k=>ofg_none hn k
set_option maxRecDepth 100000 in
set_option maxHeartbeats 4000000 in
theorem tbl_any (A1 A2 A3:Option Addr) (n1 n2 n3 c1 c2 c3:Nat) (P:List Pq) (C:List ChV) (t:NdT) (w:World) (hP:RdB pcq w w.heap.size A1 n1 P) (hC:RdB cc w w.heap.size A2 n2 C)
  (hp:∀ x∈P,In64 x.1.per) (ht:NdAt w w.heap.size t) (r1:n1≤1048576) (r2:n2≤1048576) :
  Calls Tryz.prog 96 #[.agg #[.slice A1 n1 c1,.slice A2 n2 c2,.slice A3 n3 c3],.slice t.A t.n t.c] w (Ans (.int .i64 (tbW P C t.l)) w):=by
 have HTE:Hid (tbW P C t.l=if (ofF t.l).1=0 then (if (ofF t.l).2.any (fun r=>decide ((n1:Int)≤r.p))=true then 16 else holdsF (wordsL (ofF t.l).2) (P.map Prod.fst) C) else (ofF t.l).1):=Lib.hid (by unfold tbW;rw [hP.len])
 have HPM:Hid (∀ x∈P.map Prod.fst,In64 x.per):=Lib.hid fun x hx=>by
  obtain ⟨y,hy,rfl⟩:=List.mem_map.1 hx
  exact hp y hy
 generalize tbW P C t.l=v at HTE ⊢
 have hb0:=bl1 w (.cells #[.slice A1 n1 c1,.slice A2 n2 c2,.slice A3 n3 c3] 31)
 have hOF:=pofx_any t _ (ht.on hb0)
 have hz4:=fun e=>(ofF_ok (l:=t.l) e).1
 have hz5:=fun e=>(ofF_ok (l:=t.l) e).2
 obtain ⟨A,n,c,ll⟩:=t
 dsimp only at hOF hz4 hz5 HTE ⊢
 generalize (ofF ll).1=z at hOF hz4 hz5 HTE
 generalize (ofF ll).2=L at hOF hz4 hz5 HTE
 have HZ4:=Lib.hid hz4
 have HZ5:=Lib.hid hz5
 have HP:=Lib.hid (hP.on hb0)
 have HC:=Lib.hid (hC.on hb0)
 have m0:(w.alloc (.cells #[.slice A1 n1 c1,.slice A2 n2 c2,.slice A3 n3 c3] 31)).cell? ⟨w.heap.size,0,none⟩=some (.slice A1 n1 c1):=World.cell?_alloc_mark _ _ _ _ _
 have m1:(w.alloc (.cells #[.slice A1 n1 c1,.slice A2 n2 c2,.slice A3 n3 c3] 31)).cell? ⟨w.heap.size,1,none⟩=some (.slice A2 n2 c2):=World.cell?_alloc_mark _ _ _ _ _
 have m2:(w.alloc (.cells #[.slice A1 n1 c1,.slice A2 n2 c2,.slice A3 n3 c3] 31)).cell? ⟨w.heap.size,2,none⟩=some (.slice A3 n3 c3):=World.cell?_alloc_mark _ _ _ _ _
 have hgs:w.heap.size < (w.alloc (.cells #[.slice A1 n1 c1,.slice A2 n2 c2,.slice A3 n3 c3] 31)).heap.size:=by simp
 clear hP hC hp ht hz4 hz5
 go_enter Tryz.func96,Tryz.ntmps96
 go_upto_region 1 with fail
 generalize w.alloc (.cells #[.slice A1 n1 c1,.slice A2 n2 c2,.slice A3 n3 c3] 31)=W at hb0 hOF HP HC m0 m1 m2 hgs ⊢
 obtain ⟨g,hg⟩:∃ g,g=w.heap.size:=⟨_,rfl⟩
 rw [← hg] at m0 m1 m2 hgs ⊢
 have HG:=Lib.hid hg
 have HM:=Lib.hid fun (W':World) (hb:Below W.heap.size W W') (o:Nat) (v:Value) (hv:W.cell? ⟨g,o,none⟩=some v)=>(hb.cell (p:=⟨g,o,none⟩) hgs).trans hv
 have HW:=Lib.hid fun (W':World) (hb:Below W.heap.size W W')=>hb0.trans (hb.mono hb0.size)
 have HOF:=Lib.hid hOF
 have M0:=Lib.hid m0
 have M1:=Lib.hid m1
 have M2:=Lib.hid m2
 clear hg m0 m1 m2 hb0 hgs hOF
 go_wp2_with fail
 refine HOF.out.mono ?_
 rintro e w5 ⟨A4,n4,c4,rfl,hc4,hr4,hb5⟩
 have HB5:=Lib.hid hb5
 clear hb5
 by_cases hz:z=0
 ·have hzd:(z != 0)=false:=by rw [hz];rfl
  have hr:=hr4 hz
  have h4:=HZ4.out hz
  have h5:=HZ5.out hz
  have HR:=Lib.hid hr
  have hn4:n4≤96:=by rw [← hr.len];exact h5
  have HTE2:Hid (v=if L.any (fun r=>decide ((n1:Int)≤r.p))=true then 16 else holdsF (wordsL L) (P.map Prod.fst) C):=Lib.hid (HTE.out.trans (if_pos hz))
  clear hr4 hr
  subst hz
  clear HTE
  go_wp2_with fail
  go_loopw [8,19] (fun _ s wx=>∃ i:Nat,i≤n4∧s=.int .i64 i∧(∀ (k:Nat) (r:Rn),k < i→L[k]? = some r→¬ (n1:Int)≤r.p)∧Below w5.heap.size w5 wx) (fun _ s _=>n4 - (intOf s).toNat)
  case atStart=>exact ⟨0,by omega,rfl,fun k r hk=>by omega,Below.refl _ _⟩
  case round =>
   obtain ⟨i,hi4,rfl,hok,hb⟩:=hrel
   have HOK:=Lib.hid hok
   clear hok
   have HBX:=Lib.hid (HB5.out.trans (hb.mono HB5.out.size))
   by_cases hlt4:i < n4
   ·obtain ⟨ad4,r,rfl,had4,hx4,e0,e1⟩:=(HR.out.on hb).at_ hlt4
    have hbx:=bl1 wr (.cells #[.int .i64 r.p,.int .i64 r.n] 129)
    have HB1:=Lib.hid (hb.trans (hbx.mono hb.size))
    have HB2:=Lib.hid (HBX.out.trans (hbx.mono HBX.out.size))
    have m0:=HM.out _ HB2.out 0 _ M0.out
    have HNI:Hid (¬ (n1:Int)≤r.p→∀ (k:Nat) (r:Rn),k < i+1→L[k]? = some r→¬ (n1:Int)≤r.p):=Lib.hid fun h k r' hk hy'=>by
     rcases Nat.lt_or_ge k i with h5 | h5
     ·exact HOK.out k r' h5 hy'
     ·obtain rfl:k=i:=by omega
      rw [hx4] at hy'
      injection hy' with hy'
      rw [← hy']
      exact h
    have HAN:Hid ((n1:Int)≤r.p→L.any (fun r=>decide ((n1:Int)≤r.p))=true):=Lib.hid fun h=>List.any_eq_true.2 ⟨r,List.mem_of_getElem? hx4,decide_eq_true h⟩
    clear hbx hx4 had4 hb HOK
    by_cases hrp:(n1:Int)≤r.p
    ·have k16:v=16:=by
      have e:=HTE2.out
      rw [HAN.out hrp] at e
      exact e
     have K:=Lib.hid k16
     clear HTE2 k16 HNI HAN
     go_wp2_with fail
     go_ret
     exact Ans.mk (by rw [K.out];rfl) (HW.out _ HB2.out)
    ·have HNI2:=Lib.hid (HNI.out hrp)
     clear HNI HAN
     go_wp2_with fail
     go_roundw
     case rel=>exact ⟨i+1,by omega,by go_num,HNI2.out,HB1.out⟩
     case measure=>simp [intOf];omega
   ·have hge4:n4≤i:=by omega
    have HTE3:Hid (v=holdsF (wordsL L) (P.map Prod.fst) C):=Lib.hid (by
     have e:=HTE2.out
     have ha:L.any (fun r=>decide ((n1:Int)≤r.p))=false:=by
      rw [List.any_eq_false]
      intro r hr
      obtain ⟨k,hk⟩:=List.getElem?_of_mem hr
      have:=HOK.out k r (by have:=(List.getElem?_eq_some_iff.1 hk).1;have:=HR.out.len;omega) hk
      simpa using this
     rw [ha] at e
     exact e)
    have m0:=HM.out _ HBX.out 0 _ M0.out
    have m1:=HM.out _ HBX.out 1 _ M1.out
    have m2:=HM.out _ HBX.out 2 _ M2.out
    have HHO:=Lib.hid (bholds_any A1 A2 A3 A4 n1 n2 n3 n4 c1 c2 c3 c4 (P.map Prod.fst) C L wr (HP.out.on HBX.out).fsts (HC.out.on HBX.out) (HR.out.on hb) (by omega) (by omega) hc4 (by omega) (by omega) HPM.out)
    generalize holdsF (wordsL L) (P.map Prod.fst) C=y at HHO HTE3
    clear hb HTE2 HOK
    go_wp2_with fail
    refine HHO.out.mono ?_
    rintro e w7 ⟨rfl,hb7⟩
    have HB7:=Lib.hid (HBX.out.trans (hb7.mono HBX.out.size))
    clear hb7 m0 m1 m2 HHO
    go_wp2_with fail
    go_ret
    exact Ans.mk (by rw [HTE3.out];rfl) (HW.out _ HB7.out)
 ·have hzd:(z != 0)=true:=bne_iff_ne.2 hz
  have K:Hid (v=z):=Lib.hid (HTE.out.trans (if_neg hz))
  clear HTE hz
  go_wp2_with fail
  go_ret
  exact Ans.mk (by rw [K.out];rfl) (HW.out _ HB5.out)
end Go.Proofs.YtfmndmhjjbeokaaGreatDoor
namespace Go.Proofs.YtfmndmhjjbeokaaGreatDoor
open Go.RowKit Tab
set_option linter.unusedSimpArgs false
set_option linter.unusedVariables false
set_option maxRecDepth 100000 in
set_option maxHeartbeats 4000000 in
theorem cwhere_any (A1 A2 A3:Option Addr) (n1 n2 n3 c1 c2 c3:Nat) (P:List Pq) (C:List ChV) (T:List NdT) (w:World) (hP:RdB pcq w w.heap.size A1 n1 P) (hC:RdB cc w w.heap.size A2 n2 C) (hT:RdB tcn w w.heap.size A3 n3 T)
  (hp:∀ x∈P,PtAx w w.heap.size x) (ht:∀ t∈T,NdAt w w.heap.size t) (hk:n1≤c1) :
  Calls Tryz.prog 57 #[.agg #[.slice A1 n1 c1,.slice A2 n2 c2,.slice A3 n3 c3]] w (Ans (.tuple #[.int .i64 (whereF P C T).1,.int .i64 (whereF P C T).2]) w):=by
 have hb0:=bl1 w (.cells #[.slice A1 n1 c1,.slice A2 n2 c2,.slice A3 n3 c3] 31)
 have e1:=hP.len
 have e2:=hC.len
 have e3:=hT.len
 have WBIG:Hid (¬ (1≤n1∧n1≤6∧n2≤8∧1≤n3∧n3≤3)→whereF P C T=(3,0)):=Lib.hid fun h=>whereF_big (by unfold sizesB;rw [e1,e2,e3];exact h)
 have WP:Hid ((1≤n1∧n1≤6∧n2≤8∧1≤n3∧n3≤3)→∀ i,i < n1→(∀ j,j < i→ptE P j=0)→ptE P i≠0→whereF P C T=(ptE P i,(i:Int))):=Lib.hid fun h i hi=>whereF_part (by unfold sizesB;rw [e1,e2,e3];exact h) (by omega)
 have WC:Hid ((1≤n1∧n1≤6∧n2≤8∧1≤n3∧n3≤3)→(∀ j,j < n1→ptE P j=0)→∀ i,i < n2→(∀ j,j < i→chE C n1 j=0)→chE C n1 i≠0→whereF P C T=(chE C n1 i,(i:Int))):=Lib.hid fun h hp i hi=>by
  have:=whereF_chan (T:=T) (by unfold sizesB;rw [e1,e2,e3];exact h) (by rw [e1];exact hp) (i:=i) (by omega)
  rw [e1] at this
  exact this
 have WT:Hid ((1≤n1∧n1≤6∧n2≤8∧1≤n3∧n3≤3)→(∀ j,j < n1→ptE P j=0)→(∀ j,j < n2→chE C n1 j=0)→∀ i,i < n3→(∀ j,j < i→tbE P C T j=0)→tbE P C T i≠0→whereF P C T=(tbE P C T i,(i:Int))):=Lib.hid fun h hp hc i hi =>
  whereF_tab (by unfold sizesB;rw [e1,e2,e3];exact h) (by rw [e1];exact hp) (by rw [e1,e2];exact hc) (i:=i) (by omega)
 have WOK:Hid ((1≤n1∧n1≤6∧n2≤8∧1≤n3∧n3≤3)→(∀ j,j < n1→ptE P j=0)→(∀ j,j < n2→chE C n1 j=0)→(∀ j,j < n3→tbE P C T j=0)→whereF P C T=(0,-1)):=Lib.hid fun h hp hc ht =>
  whereF_ok (by unfold sizesB;rw [e1,e2,e3];exact h) (by rw [e1];exact hp) (by rw [e1,e2];exact hc) (by rw [e3];exact ht)
 have HPM:Hid (∀ x∈P,In64 x.1.per):=Lib.hid fun x hx=>(hp x hx).per
 generalize whereF P C T=V at WBIG WP WC WT WOK ⊢
 obtain ⟨V1,V2⟩:=V
 dsimp only at WBIG WP WC WT WOK ⊢
 have HFQ:Hid ((wiF (n1:Int) 1 6 && (decide (n2≤8) && wiF (n3:Int) 1 3))=decide (1≤n1∧n1≤6∧n2≤8∧1≤n3∧n3≤3)):=Lib.hid (by
  rw [show wiF (n1:Int) 1 6=(decide (1≤n1) && decide (n1≤6)) from wiF_nat n1 1 6,show wiF (n3:Int) 1 3=(decide (1≤n3) && decide (n3≤3)) from wiF_nat n3 1 3]
  simp only [Bool.decide_and,Bool.and_assoc])
 have HFW:=Lib.hid fun V=>fw_any A1 A2 A3 n1 n2 n3 c1 c2 c3 V
 rw [HFQ.out] at HFW
 have HP:=Lib.hid hP
 have HC:=Lib.hid hC
 have HT:=Lib.hid hT
 have HPT:=Lib.hid hp
 have HTT:=Lib.hid ht
 have m0:(w.alloc (.cells #[.slice A1 n1 c1,.slice A2 n2 c2,.slice A3 n3 c3] 31)).cell? ⟨w.heap.size,0,none⟩=some (.slice A1 n1 c1):=World.cell?_alloc_mark _ _ _ _ _
 have m1:(w.alloc (.cells #[.slice A1 n1 c1,.slice A2 n2 c2,.slice A3 n3 c3] 31)).cell? ⟨w.heap.size,1,none⟩=some (.slice A2 n2 c2):=World.cell?_alloc_mark _ _ _ _ _
 have m2:(w.alloc (.cells #[.slice A1 n1 c1,.slice A2 n2 c2,.slice A3 n3 c3] 31)).cell? ⟨w.heap.size,2,none⟩=some (.slice A3 n3 c3):=World.cell?_alloc_mark _ _ _ _ _
 have hgs:w.heap.size < (w.alloc (.cells #[.slice A1 n1 c1,.slice A2 n2 c2,.slice A3 n3 c3] 31)).heap.size:=by simp
 clear hP hC hT hp ht e1 e2 e3 HFQ
 go_enter Tryz.func57,Tryz.ntmps57
 go_upto_region 1 with fail
 generalize w.alloc (.cells #[.slice A1 n1 c1,.slice A2 n2 c2,.slice A3 n3 c3] 31)=W at hb0 m0 m1 m2 hgs ⊢
 obtain ⟨g,hg⟩:∃ g,g=w.heap.size:=⟨_,rfl⟩
 rw [← hg] at m0 m1 m2 hgs ⊢
 have HG:=Lib.hid hg
 have HM:=Lib.hid fun (W':World) (hb:Below W.heap.size W W') (o:Nat) (v:Value) (hv:W.cell? ⟨g,o,none⟩=some v)=>(hb.cell (p:=⟨g,o,none⟩) hgs).trans hv
 have HW:=Lib.hid fun (W':World) (hb:Below W.heap.size W W')=>hb0.trans (hb.mono hb0.size)
 have M0:=Lib.hid m0
 have M1:=Lib.hid m1
 have M2:=Lib.hid m2
 clear hg hb0
 go_wp2_with fail
 refine (HFW.out W).mono ?_
 rintro e w1 ⟨rfl,hb1⟩
 have HB1:=Lib.hid hb1
 clear m0 m1 m2 HFW hb1
 by_cases qz:1≤n1∧n1≤6∧n2≤8∧1≤n3∧n3≤3
 case neg =>
  have hd:decide (1≤n1∧n1≤6∧n2≤8∧1≤n3∧n3≤3)=false:=decide_eq_false qz
  have hv:=WBIG.out qz
  injection hv with hv1 hv2
  subst hv1 hv2
  rw [hd]
  clear WBIG WP WC WT WOK hd qz
  go_wp2_with fail
  go_ret2
  exact Ans.mk rfl (HW.out _ HB1.out)
 have hd:decide (1≤n1∧n1≤6∧n2≤8∧1≤n3∧n3≤3)=true:=decide_eq_true qz
 rw [hd]
 clear hd
 have WP:=Lib.hid (WP.out qz)
 have WC:=Lib.hid (WC.out qz)
 have WT:=Lib.hid (WT.out qz)
 have WOK:=Lib.hid (WOK.out qz)
 have r0:1≤n1:=qz.1
 have r1:n1≤6:=qz.2.1
 have r2:n2≤8:=qz.2.2.1
 have r3:n3≤3:=qz.2.2.2.2
 have m0:=HM.out w1 HB1.out 0 _ M0.out
 clear WBIG qz
 go_wp2_with fail
 clear m0
 go_loopw [4,5,6,18] (fun _ _ _ s wr=>∃ i:Nat,i≤n1∧s=.int .i64 i∧(∀ j,j < i→ptE P j=0)∧Below W.heap.size W wr) (fun _ _ _ s _=>n1 - (intOf s).toNat)
 case atStart=>exact ⟨0,by omega,rfl,fun j hj=>by omega,HB1.out⟩
 case round =>
  obtain ⟨i,hi,rfl,hok,hb⟩:=hrel
  have HOK:=Lib.hid hok
  clear hok
  by_cases hlt:i < n1
  ·obtain ⟨ad,x,rfl,had,hx,c0,ck⟩:=(HP.out.on (HW.out _ hb)).at_ pcq_len (by omega) hlt
   have hPA:=(HPT.out x (List.mem_of_getElem? hx)).on (HW.out _ hb)
   have d0:=c0 _ rfl
   have d1:=ck 1 _ (by omega) rfl
   have d2:=ck 2 _ (by omega) rfl
   have d3:=ck 3 _ (by omega) rfl
   have d4:=ck 4 _ (by omega) rfl
   have d5:=ck 5 _ (by omega) rfl
   have d6:=ck 6 _ (by omega) rfl
   have d7:=ck 7 _ (by omega) rfl
   have d8:=ck 8 _ (by omega) rfl
   have d9:=ck 9 _ (by omega) rfl
   have d10:=ck 10 _ (by omega) rfl
   have hpe:ptE P i=paF (P.take i) x:=by
    rw [paF_ptW]
    unfold ptE
    rw [hx]
   have HWP:=Lib.hid (WP.out i hlt HOK.out)
   have HNX:=Lib.hid fun (h:ptE P i=0)=>lt_more (p:=fun j=>ptE P j=0) HOK.out h
   have HPC:=Lib.hid fun V (hv:Below wr.heap.size wr V)=>prt_any x (some ad) i c1 (P.take i) V (hPA.on hv).procs hPA.name (((HP.out.on (HW.out _ hb)).on hv).tak (by omega)) (by omega)
   rw [← hpe] at HPC
   generalize ptE P i=z at HWP HNX HPC
   obtain ⟨⟨nm,bu,pe,sc,st,pa,pn,pc,h0,h1,h2,h3,h4⟩,L⟩:=x
   dsimp only at d0 d1 d2 d3 d4 d5 d6 d7 d8 d9 d10
   dsimp only [pv] at HPC
   have hbx:=bl1 wr (.cells #[.string nm,.int .i64 bu,.int .i64 pe,.bool sc,.bool st,.slice pa pn pc,.int .i64 h0,.int .i64 h1,.int .i64 h2,.int .i64 h3,.int .i64 h4] 60)
   have HPC:=Lib.hid fun V (hv:Below (wr.alloc (.cells #[.string nm,.int .i64 bu,.int .i64 pe,.bool sc,.bool st,.slice pa pn pc,.int .i64 h0,.int .i64 h1,.int .i64 h2,.int .i64 h3,.int .i64 h4] 60)).heap.size (wr.alloc (.cells #[.string nm,.int .i64 bu,.int .i64 pe,.bool sc,.bool st,.slice pa pn pc,.int .i64 h0,.int .i64 h1,.int .i64 h2,.int .i64 h3,.int .i64 h4] 60)) V)=>HPC.out V (hbx.trans (hv.mono hbx.size))
   have HB2:=Lib.hid (hb.trans (hbx.mono hb.size))
   have hki:i≤c1:=by omega
   clear c0 ck hx hPA hpe HOK
   go_upto_region 6 with fail
   have m0:=HM.out _ HB2.out 0 _ M0.out
   have HF:Hid (∀ o v,(#[Value.string nm,.int .i64 bu,.int .i64 pe,.bool sc,.bool st,.slice pa pn pc,.int .i64 h0,.int .i64 h1,.int .i64 h2,.int .i64 h3,.int .i64 h4]:Array Value)[o]? = some v→(wr.alloc (.cells #[.string nm,.int .i64 bu,.int .i64 pe,.bool sc,.bool st,.slice pa pn pc,.int .i64 h0,.int .i64 h1,.int .i64 h2,.int .i64 h3,.int .i64 h4] 60)).cell? ⟨wr.heap.size,o,none⟩=some v):=Lib.hid fun o v hv=>(World.cell?_alloc_mark _ _ _ _ _).trans hv
   generalize wr.alloc (.cells #[.string nm,.int .i64 bu,.int .i64 pe,.bool sc,.bool st,.slice pa pn pc,.int .i64 h0,.int .i64 h1,.int .i64 h2,.int .i64 h3,.int .i64 h4] 60)=W5 at HPC HB2 HF m0 ⊢
   generalize wr.heap.size=gx at HF ⊢
   have f0:=HF.out 0 _ rfl
   have f1:=HF.out 1 _ rfl
   have f2:=HF.out 2 _ rfl
   have f3:=HF.out 3 _ rfl
   have f4:=HF.out 4 _ rfl
   have f5:=HF.out 5 _ rfl
   have f6:=HF.out 6 _ rfl
   have f7:=HF.out 7 _ rfl
   have f8:=HF.out 8 _ rfl
   have f9:=HF.out 9 _ rfl
   have f10:=HF.out 10 _ rfl
   clear HF d0 d1 d2 d3 d4 d5 d6 d7 d8 d9 d10 hbx hb
   go_region_with (go_at_call 94;refine (HPC.out _ (by first | exact Below.refl _ _ | exact (Below.refl _ _).drew | exact Below.drewN (Below.refl _ _) _)).mono ?_;rintro e w6 ⟨rfl,hb6⟩)
   all_goals
    have HB6:Hid (Below W.heap.size W w6):=Lib.hid (by first | exact HB2.out.trans (hb6.mono HB2.out.size) | exact HB2.out.trans (Below.mono (Below.trans (Below.refl _ _).drew hb6) HB2.out.size))
    clear hb6 f0 f1 f2 f3 f4 f5 f6 f7 f8 f9 f10 m0
    by_cases hz:z=0
    ·have hzd:(z != 0)=false:=by rw [hz];rfl
     have HN:=Lib.hid (HNX.out hz)
     clear HNX HWP
     subst hz
     go_wp2_with fail
     go_roundw
     case rel=>exact ⟨i+1,by omega,by go_num,HN.out,HB6.out⟩
     case measure=>simp [intOf];omega
    ·have hzd:(z != 0)=true:=bne_iff_ne.2 hz
     have hv:=HWP.out hz
     injection hv with hv1 hv2
     subst hv1 hv2
     clear HNX HWP WP WC WT WOK
     go_wp2_with fail
     go_ret2
     exact Ans.mk rfl (HW.out _ HB6.out)
  ·have hge:n1≤i:=by omega
   have HPK:Hid (∀ j,j < n1→ptE P j=0):=Lib.hid fun j hj=>HOK.out j (by omega)
   have WC2:=Lib.hid (WC.out HPK.out)
   have WT2:=Lib.hid (WT.out HPK.out)
   have WOK2:=Lib.hid (WOK.out HPK.out)
   have m1:=HM.out wr hb 1 _ M1.out
   clear WP WC WT WOK HOK
   go_wp2_with fail
   clear m1
   go_loopw [7,8,37] (fun _ _ s wx=>∃ j:Nat,j≤n2∧s=.int .i64 j∧(∀ k,k < j→chE C n1 k=0)∧Below W.heap.size W wx) (fun _ _ s _=>n2 - (intOf s).toNat)
   case atStart=>exact ⟨0,by omega,rfl,fun k hk=>by omega,hb⟩
   case round =>
    obtain ⟨j,hj,rfl,hok,hb⟩:=hrel
    have HOK:=Lib.hid hok
    clear hok
    by_cases hlt:j < n2
    ·obtain ⟨ad,x,rfl,had,hx,c0,ck⟩:=(HC.out.on (HW.out _ hb)).at_ cc_len (by omega) hlt
     have d0:=c0 _ rfl
     have d1:=ck 1 _ (by omega) rfl
     have d2:=ck 2 _ (by omega) rfl
     have d3:=ck 3 _ (by omega) rfl
     have d4:=ck 4 _ (by omega) rfl
     have d5:=ck 5 _ (by omega) rfl
     have HE:=Lib.hid (chE_at (n:=n1) hx)
     have HWC:=Lib.hid (WC2.out j hlt HOK.out)
     have HNX:=Lib.hid fun (h:chE C n1 j=0)=>lt_more (p:=fun j=>chE C n1 j=0) HOK.out h
     obtain ⟨xf,xt,xq,xc,xm,xl⟩:=x
     dsimp only at d0 d1 d2 d3 d4 d5
     have hbx:=bl1 wr (.cells #[.int .i64 xf,.int .i64 xt,.bool xq,.int .i64 xc,.int .u32 xm,.int .i64 xl] 66)
     have HB1:=Lib.hid (hb.trans (hbx.mono hb.size))
     have m0:=HM.out _ HB1.out 0 _ M0.out
     have HCR:=Lib.hid fun V=>chn_any ⟨xf,xt,xq,xc,xm,xl⟩ n1 (by omega) V
     generalize chanF ⟨xf,xt,xq,xc,xm,xl⟩ (n1:Int)=b at HCR HE
     clear c0 ck hx hbx HOK
     go_wp2_with fail
     refine (HCR.out _).mono ?_
     rintro e w5 ⟨rfl,hb5⟩
     have HB5:=Lib.hid (HB1.out.trans (hb5.mono HB1.out.size))
     clear hb5 d0 d1 d2 d3 d4 d5 m0
     cases b
     ·have k17:chE C n1 j=17:=HE.out
      have hv:=HWC.out (by rw [k17];decide)
      rw [k17] at hv
      injection hv with hv1 hv2
      subst hv1 hv2
      clear HE HWC HNX k17 WC2 WT2 WOK2
      go_wp2_with fail
      go_ret2
      exact Ans.mk rfl (HW.out _ HB5.out)
     ·have k0:chE C n1 j=0:=HE.out
      have HNX2:=Lib.hid (HNX.out k0)
      clear k0 HE HWC HNX
      go_wp2_with fail
      go_roundw
      case rel=>exact ⟨j+1,by omega,by go_num,HNX2.out,HB5.out⟩
      case measure=>simp [intOf];omega
    ·have hge:n2≤j:=by omega
     have HCK:Hid (∀ k,k < n2→chE C n1 k=0):=Lib.hid fun k hk=>HOK.out k (by omega)
     have WT3:=Lib.hid (WT2.out HCK.out)
     have WOK3:=Lib.hid (WOK2.out HCK.out)
     have m2:=HM.out wr hb 2 _ M2.out
     clear WC2 WT2 WOK2 HOK
     go_wp2_with fail
     clear m2
     go_loopw [9,10,11,53] (fun _ _ _ s wx=>∃ j:Nat,j≤n3∧s=.int .i64 j∧(∀ k,k < j→tbE P C T k=0)∧Below W.heap.size W wx) (fun _ _ _ s _=>n3 - (intOf s).toNat)
     case atStart=>exact ⟨0,by omega,rfl,fun k hk=>by omega,hb⟩
     case round =>
      obtain ⟨j,hj,rfl,hok,hb⟩:=hrel
      have HOK:=Lib.hid hok
      clear hok
      by_cases hlt:j < n3
      ·obtain ⟨ad,t,rfl,had,hx,c0,ck⟩:=(HT.out.on (HW.out _ hb)).at_ tcn_len (by omega) hlt
       have d0:=c0 _ rfl
       rw [Nat.mul_one] at d0
       have hTA:=(HTT.out t (List.mem_of_getElem? hx)).on (HW.out _ hb)
       have HTE:=Lib.hid (tbE_at (P:=P) (C:=C) hx)
       have HWT:=Lib.hid (WT3.out j hlt HOK.out)
       have HNX:=Lib.hid fun (h:tbE P C T j=0)=>lt_more (p:=fun j=>tbE P C T j=0) HOK.out h
       have HTB:=Lib.hid (tbl_any A1 A2 (some ad) n1 n2 n3 c1 c2 c3 P C t wr (HP.out.on (HW.out _ hb)) (HC.out.on (HW.out _ hb)) HPM.out hTA (by omega) (by omega))
       have m0:=HM.out wr hb 0 _ M0.out
       have m1:=HM.out wr hb 1 _ M1.out
       have m2:=HM.out wr hb 2 _ M2.out
       rw [← HTE.out] at HTB
       generalize tbE P C T j=z at HWT HNX HTB
       obtain ⟨A,n,c,ll⟩:=t
       dsimp only at d0 HTB
       clear c0 ck hx hTA HTE HOK
       go_wp2_with fail
       refine HTB.out.mono ?_
       rintro e w5 ⟨rfl,hb5⟩
       have HB6:=Lib.hid (hb.trans (hb5.mono hb.size))
       clear hb5 d0 m0 m1 m2 HTB
       by_cases hz:z=0
       ·have hzd:(z != 0)=false:=by rw [hz];rfl
        have HN:=Lib.hid (HNX.out hz)
        clear HNX HWT
        subst hz
        go_wp2_with fail
        go_roundw
        case rel=>exact ⟨j+1,by omega,by go_num,HN.out,HB6.out⟩
        case measure=>simp [intOf];omega
       ·have hzd:(z != 0)=true:=bne_iff_ne.2 hz
        have hv:=HWT.out hz
        injection hv with hv1 hv2
        subst hv1 hv2
        clear HNX HWT WT3 WOK3
        go_wp2_with fail
        go_ret2
        exact Ans.mk rfl (HW.out _ HB6.out)
      ·have hge:n3≤j:=by omega
       have hv:=WOK3.out fun k hk=>HOK.out k (by omega)
       injection hv with hv1 hv2
       subst hv1 hv2
       clear WT3 WOK3 HOK
       go_wp2_with fail
       go_ret2
       exact Ans.mk rfl (HW.out _ hb)
set_option maxRecDepth 100000 in
theorem cfright_any (A1 A2 A3:Option Addr) (n1 n2 n3 c1 c2 c3:Nat) (P:List Pq) (C:List ChV) (T:List NdT) (w:World) (hP:RdB pcq w w.heap.size A1 n1 P) (hC:RdB cc w w.heap.size A2 n2 C) (hT:RdB tcn w w.heap.size A3 n3 T)
  (hp:∀ x∈P,PtAx w w.heap.size x) (ht:∀ t∈T,NdAt w w.heap.size t) (hk:n1≤c1) :
  Calls Tryz.prog 30 #[.agg #[.slice A1 n1 c1,.slice A2 n2 c2,.slice A3 n3 c3]] w (Ans (.int .i64 (whereF P C T).1) w):=by
 have hb0:=bl1 w (.cells #[.slice A1 n1 c1,.slice A2 n2 c2,.slice A3 n3 c3] 31)
 have HW:=Lib.hid (cwhere_any A1 A2 A3 n1 n2 n3 c1 c2 c3 P C T _ (hP.on hb0) (hC.on hb0) (hT.on hb0) (fun x hx=>(hp x hx).on hb0) (fun t ht'=>(ht t ht').on hb0) hk)
 clear hP hC hT hp ht
 go_enter Tryz.func30,Tryz.ntmps30
 go_wp2_with fail
 refine HW.out.mono ?_
 rintro e w5 ⟨rfl,hb5⟩
 go_wp2_with fail
 go_ret
 exact Ans.mk rfl (hb0.trans (hb5.mono hb0.size))
end Go.Proofs.YtfmndmhjjbeokaaGreatDoor
