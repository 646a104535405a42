import Derived.Test.YtfddpnhaejkacaaGreatLow6
import Derived.Test.YtfddpnhaejkacaaGreatLow11
import Derived.Test.YtfddpnhaejkacaaGreatLow4
import Derived.Test.YtfddpnhaejkacaaGreatLow8
import Derived.Test.YtfddpnhaejkacaaGreatLow10
import Derived.Deep.Cut
set_option linter.unusedSimpArgs false
set_option linter.unusedVariables false
namespace Go.Proofs.YtfddpnhaejkacaaGreat
open Go.RowKit Tab
open Lib (hid)
structure TbV where
 A:Option Addr
 n:Nat
 c:Nat
 x:Nd
 k:F
def tcl (t:TbV):List Value:=[.slice t.A t.n t.c]
theorem tcl_len (t:TbV):(tcl t).length=1:=rfl
structure TbAt (w:World) (B:Nat) (t:TbV):Prop where
 rd:RdN w B t.A t.n (t.x::t.k.flat)
 cap:t.n≤t.c
 ok:(F.cons t.x t.k .nil).ok
 few:t.n≤1048576
theorem TbAt.on {w w':World} {t:TbV} (h:TbAt w w.heap.size t) (hb:Below w.heap.size w w'):TbAt w' w'.heap.size t:=⟨h.rd.on hb,h.cap,h.ok,h.few⟩
structure PtAt (w:World) (B:Nat) (x:PtV):Prop where
 per:In64 x.per
 name:x.name.size≤1048576
 few:x.pn≤1048576
 procs:ProcsAt w B x.pa x.pn
theorem PtAt.on {w w':World} {x:PtV} (h:PtAt w w.heap.size x) (hb:Below w.heap.size w w'):PtAt w' w'.heap.size x:=⟨h.per,h.name,h.few,h.procs.on hb⟩
def SomE (w:World) (e:Ending) (w':World):Prop:=∃ z i,e=.returned (.tuple #[.int .i64 z,.int .i64 i])∧Below w.heap.size w w'
set_option maxRecDepth 100000 in
set_option maxHeartbeats 4000000 in
theorem where_any (A1 A2 A3:Option Addr) (n1 n2 n3 c1 c2 c3:Nat) (P:List PtV) (C:List ChV) (T:List TbV) (w:World) (hP:RdB pcl w w.heap.size A1 n1 P) (hC:RdB cc w w.heap.size A2 n2 C) (hT:RdB tcl w w.heap.size A3 n3 T)
  (hp:∀ x∈P,PtAt w w.heap.size x) (ht:∀ t∈T,TbAt w w.heap.size t) :
  Calls Tryz.prog 93 #[.agg #[.slice A1 n1 c1,.slice A2 n2 c2,.slice A3 n3 c3]] w (SomE w):=by
 have hb0:=bl1 w (.cells #[.slice A1 n1 c1,.slice A2 n2 c2,.slice A3 n3 c3] 31)
 have HP:=hid hP
 have HC:=hid hC
 have HT:=hid hT
 have HPT:=hid hp
 have HTT:=hid ht
 have m0:(w.alloc (.cells #[.slice A1 n1 c1,.slice A2 n2 c2,.slice A3 n3 c3] 31)).cell? ⟨w.heap.size,0,none⟩=some (.slice A1 n1 c1):=World.cell?_alloc_mark _ _ _ _ _
 have m1:(w.alloc (.cells #[.slice A1 n1 c1,.slice A2 n2 c2,.slice A3 n3 c3] 31)).cell? ⟨w.heap.size,1,none⟩=some (.slice A2 n2 c2):=World.cell?_alloc_mark _ _ _ _ _
 have m2:(w.alloc (.cells #[.slice A1 n1 c1,.slice A2 n2 c2,.slice A3 n3 c3] 31)).cell? ⟨w.heap.size,2,none⟩=some (.slice A3 n3 c3):=World.cell?_alloc_mark _ _ _ _ _
 have hgs:w.heap.size < (w.alloc (.cells #[.slice A1 n1 c1,.slice A2 n2 c2,.slice A3 n3 c3] 31)).heap.size:=by simp
 clear hP hC hT hp ht
 go_enter Tryz.func93,Tryz.ntmps93
 by_cases q1:(n1:Int) < 1
 ·have d1:=decide_eq_true q1
  go_wp2_with fail
  go_ret2
  exact⟨_,_,rfl,bl1 _ _⟩
 have d1:=decide_eq_false q1
 by_cases q2:(6:Int) < (n1:Int)
 ·have d2:=decide_eq_true q2
  go_wp2_with fail
  go_ret2
  exact⟨_,_,rfl,bl1 _ _⟩
 have d2:=decide_eq_false q2
 by_cases q3:(8:Int) < (n2:Int)
 ·have d3:=decide_eq_true q3
  go_wp2_with fail
  go_ret2
  exact⟨_,_,rfl,bl1 _ _⟩
 have d3:=decide_eq_false q3
 by_cases q4:(n3:Int) < 1
 ·have d4:=decide_eq_true q4
  go_wp2_with fail
  go_ret2
  exact⟨_,_,rfl,bl1 _ _⟩
 have d4:=decide_eq_false q4
 by_cases q5:(3:Int) < (n3:Int)
 ·have d5:=decide_eq_true q5
  go_wp2_with fail
  go_ret2
  exact⟨_,_,rfl,bl1 _ _⟩
 have d5:=decide_eq_false q5
 go_wp2_with fail
 have r1:n1≤6:=by omega
 have r2:n2≤8:=by omega
 have r3:n3≤3:=by omega
 clear q1 q2 q3 q4 q5 d1 d2 d3 d4 d5
 generalize w.alloc (.cells #[.slice A1 n1 c1,.slice A2 n2 c2,.slice A3 n3 c3] 31)=W at hb0 m0 m1 m2 hgs ⊢
 obtain⟨g,hg⟩:∃ g,g=w.heap.size:=⟨_,rfl⟩
 rw[← hg] at m0 m1 m2 hgs ⊢
 have HG:=hid hg
 have HB0:=hid hb0
 have HM:=hid fun(W':World) (hb:Below W.heap.size W W') (o:Nat) (v:Value) (hv:W.cell? ⟨g,o,none⟩=some v)=>(hb.cell (p:=⟨g,o,none⟩) hgs).trans hv
 have HW:=hid fun(W':World) (hb:Below W.heap.size W W')=>hb0.trans (hb.mono hb0.size)
 have M0:=hid m0
 have M1:=hid m1
 have M2:=hid m2
 clear hg m0 m1 m2 hb0
 go_loopw [4,5,6,47] (fun _ _ _ s wr=>∃ i:Nat,i≤n1∧s=.int .i64 i∧Below W.heap.size W wr) (fun _ _ _ s _=>n1 - (intOf s).toNat)
 case atStart=>exact⟨0,by omega,rfl,Below.refl _ _⟩
 case round =>
  obtain⟨i,hi,rfl,hb⟩:=hrel
  by_cases hlt:i < n1
  ·obtain⟨ad,x,rfl,had,hx,c0,ck⟩:=(HP.out.on (HW.out _ hb)).at_ pcl_len (by omega) hlt
   have hPA:=(HPT.out x (List.mem_of_getElem? hx)).on (HW.out _ hb)
   have d0:=c0 _ rfl
   have d1:=ck 1 _ (by omega) rfl
   have d2:=ck 2 _ (by omega) rfl
   have d3:=ck 3 _ (by omega) rfl
   have d4:=ck 4 _ (by omega) rfl
   have d5:=ck 5 _ (by omega) rfl
   have d6:=ck 6 _ (by omega) rfl
   have d7:=ck 7 _ (by omega) rfl
   have d8:=ck 8 _ (by omega) rfl
   have d9:=ck 9 _ (by omega) rfl
   have d10:=ck 10 _ (by omega) rfl
   obtain⟨nm,bu,pe,sc,st,pa,pn,pc,h0,h1,h2,h3,h4⟩:=x
   dsimp only at d0 d1 d2 d3 d4 d5 d6 d7 d8 d9 d10
   have hbx:=bl1 wr (.cells #[.string nm,.int .i64 bu,.int .i64 pe,.bool sc,.bool st,.slice pa pn pc,.int .i64 h0,.int .i64 h1,.int .i64 h2,.int .i64 h3,.int .i64 h4] 68)
   have hb1:=hb.trans (hbx.mono hb.size)
   have hPA1:=hid (hPA.on hbx)
   have f:∀ o v,(#[Value.string nm,.int .i64 bu,.int .i64 pe,.bool sc,.bool st,.slice pa pn pc,.int .i64 h0,.int .i64 h1,.int .i64 h2,.int .i64 h3,.int .i64 h4]:Array Value)[o]? = some v→(wr.alloc (.cells #[.string nm,.int .i64 bu,.int .i64 pe,.bool sc,.bool st,.slice pa pn pc,.int .i64 h0,.int .i64 h1,.int .i64 h2,.int .i64 h3,.int .i64 h4] 68)).cell? ⟨wr.heap.size,o,none⟩=some v:=fun o v hv=>(World.cell?_alloc_mark _ _ _ _ _).trans hv
   have hgx:wr.heap.size < (wr.alloc (.cells #[.string nm,.int .i64 bu,.int .i64 pe,.bool sc,.bool st,.slice pa pn pc,.int .i64 h0,.int .i64 h1,.int .i64 h2,.int .i64 h3,.int .i64 h4] 68)).heap.size:=by simp
   have HF:=hid f
   have m0:=HM.out wr hb 0 _ M0.out
   clear c0 ck hx hbx hPA f
   have f0:=HF.out 0 _ rfl
   have HNM:=hid (name_any nm (wr.alloc (.cells #[.string nm,.int .i64 bu,.int .i64 pe,.bool sc,.bool st,.slice pa pn pc,.int .i64 h0,.int .i64 h1,.int .i64 h2,.int .i64 h3,.int .i64 h4] 68)) hPA1.out.name)
   go_wp2_with fail
   refine HNM.out.mono ?_
   rintro e w5 ⟨b,rfl,hb5⟩
   generalize wr.alloc (.cells #[.string nm,.int .i64 bu,.int .i64 pe,.bool sc,.bool st,.slice pa pn pc,.int .i64 h0,.int .i64 h1,.int .i64 h2,.int .i64 h3,.int .i64 h4] 68)=W2 at hb1 HF hPA1 hgx HNM hb5 f0
   generalize wr.heap.size=gx at HF hgx f0 ⊢
   have HB5:=hid (hb1.trans (hb5.mono hb1.size))
   have hPA5:=hid (hPA1.out.on hb5)
   have HF5:=hid fun(W':World) (hb:Below w5.heap.size w5 W') (o:Nat) v hv=>((hb5.trans (hb.mono hb5.size)).cell (p:=⟨gx,o,none⟩) hgx).trans (HF.out o v hv)
   clear hb5 HNM HF hPA1 hb1 hgx f0 d0 d1 d2 d3 d4 d5 d6 d7 d8 d9 d10 had hb m0
   cases b
   ·go_wp2_with fail
    go_ret2
    exact⟨_,_,rfl,HW.out _ HB5.out⟩
   ·go_wp2_with fail
    go_loopw [6] (fun s wx=>∃ j:Nat,j≤i∧s=.int .i64 j∧Below w5.heap.size w5 wx) (fun s _=>i - (intOf s).toNat)
    case atStart=>exact⟨0,by omega,rfl,Below.refl _ _⟩
    case round =>
     obtain⟨j,hj,rfl,hb⟩:=hrel
     have HBX:=hid (HB5.out.trans (hb.mono HB5.out.size))
     by_cases hji:j < i
     ·obtain⟨ad2,y,hA2,had2,hy,c0,ck⟩:=(HP.out.on (HW.out _ HBX.out)).at_ pcl_len (by omega) (show j < n1 by omega)
      obtain rfl:ad=ad2:=by injection hA2
      have d0:=c0 _ rfl
      have f0:=HF5.out _ hb 0 _ rfl
      have m0:=HM.out _ HBX.out 0 _ M0.out
      obtain⟨nm2,bu2,pe2,sc2,st2,pa2,pn2,pc2,k0,k1,k2,k3,k4⟩:=y
      dsimp only at d0
      have hji':(j:Int) < (i:Int):=by omega
      have HBI:=hid hb
      clear c0 ck hy hA2 had2 hb
      go_wp2_with fail
      go_quiet (fail)
      go_wp2_with fail
      all_goals
       first
       |(go_ret2;exact⟨_,_,rfl,HW.out _ (Below.drewN HBX.out nq)⟩)
       |(go_roundw
         case rel=>exact⟨j+1,by omega,by go_num,Below.drewN HBI.out nq⟩
         case measure=>simp[intOf];omega)
     ·have hji':¬ (j:Int) < (i:Int):=by omega
      have f0:=HF5.out _ hb 0 _ rfl
      have f1:=HF5.out _ hb 1 _ rfl
      have f2:=HF5.out _ hb 2 _ rfl
      have f3:=HF5.out _ hb 3 _ rfl
      have f4:=HF5.out _ hb 4 _ rfl
      have f5:=HF5.out _ hb 5 _ rfl
      have f6:=HF5.out _ hb 6 _ rfl
      have f7:=HF5.out _ hb 7 _ rfl
      have f8:=HF5.out _ hb 8 _ rfl
      have f9:=HF5.out _ hb 9 _ rfl
      have f10:=HF5.out _ hb 10 _ rfl
      have HPX:=hPA5.out.on hb
      have HPR:=hid (partRight_any ⟨nm,bu,pe,sc,st,pa,pn,pc,h0,h1,h2,h3,h4⟩ wr HPX.procs HPX.few)
      clear HPX hb
      go_wp2_with fail
      refine HPR.out.mono ?_
      rintro e w6 ⟨b,rfl,hb6⟩
      have HB6:=hid (HBX.out.trans (hb6.mono HBX.out.size))
      clear hb6 f0 f1 f2 f3 f4 f5 f6 f7 f8 f9 f10
      cases b <;> go_wp2_with fail
      all_goals
       first
       |(go_ret2;exact⟨_,_,rfl,HW.out _ HB6.out⟩)
       |(go_roundw
         case rel=>exact⟨i+1,by omega,by go_num,HB6.out⟩
         case measure=>simp[intOf];omega)
  ·have hge:n1≤i:=by omega
   have m1:=HM.out wr hb 1 _ M1.out
   go_wp2_with fail
   go_loopw [7,8,80] (fun _ _ s wx=>∃ j:Nat,j≤n2∧s=.int .i64 j∧Below W.heap.size W wx) (fun _ _ s _=>n2 - (intOf s).toNat)
   case atStart=>exact⟨0,by omega,rfl,hb⟩
   case round =>
    obtain⟨j,hj,rfl,hb⟩:=hrel
    by_cases hlt:j < n2
    ·obtain⟨ad,x,rfl,had,hx,c0,ck⟩:=(HC.out.on (HW.out _ hb)).at_ cc_len (by omega) hlt
     have d0:=c0 _ rfl
     have d1:=ck 1 _ (by omega) rfl
     have d2:=ck 2 _ (by omega) rfl
     have d3:=ck 3 _ (by omega) rfl
     have d4:=ck 4 _ (by omega) rfl
     have d5:=ck 5 _ (by omega) rfl
     obtain⟨xf,xt,xq,xc,xm,xl⟩:=x
     dsimp only at d0 d1 d2 d3 d4 d5
     have hbx:=bl1 wr (.cells #[.int .i64 xf,.int .i64 xt,.bool xq,.int .i64 xc,.int .u32 xm,.int .i64 xl] 42)
     have HB1:=hid (hb.trans (hbx.mono hb.size))
     have m0:=HM.out _ HB1.out 0 _ M0.out
     have HCR:=hid (chanRight_any ⟨xf,xt,xq,xc,xm,xl⟩ (n1:Int))
     clear c0 ck hx hbx
     go_wp2_with fail
     refine(HCR.out _).mono ?_
     rintro e w5 ⟨b,rfl,hb5⟩
     have HB5:=hid (HB1.out.trans (hb5.mono HB1.out.size))
     clear hb5 d0 d1 d2 d3 d4 d5 m0
     cases b <;> go_wp2_with fail
     all_goals
      first
      |(go_ret2;exact⟨_,_,rfl,HW.out _ HB5.out⟩)
      |(go_roundw
        case rel=>exact⟨j+1,by omega,by go_num,HB5.out⟩
        case measure=>simp[intOf];omega)
    ·have hge:n2≤j:=by omega
     have m2:=HM.out wr hb 2 _ M2.out
     go_wp2_with fail
     go_loopw [9,10,11,12,14,15,96] (fun _ _ _ _ _ _ s wx=>∃ j:Nat,j≤n3∧s=.int .i64 j∧Below W.heap.size W wx) (fun _ _ _ _ _ _ s _=>n3 - (intOf s).toNat)
     case atStart=>exact⟨0,by omega,rfl,hb⟩
     case round =>
      obtain⟨j,hj,rfl,hb⟩:=hrel
      by_cases hlt:j < n3
      ·obtain⟨ad,t,rfl,had,hx,c0,ck⟩:=(HT.out.on (HW.out _ hb)).at_ tcl_len (by omega) hlt
       have d0:=c0 _ rfl
       rw[Nat.mul_one] at d0
       have hTA:=(HTT.out t (List.mem_of_getElem? hx)).on (HW.out _ hb)
       obtain⟨A,n,c,x,k⟩:=t
       have HOF:=hid (rof_any A n c x k wr hTA.rd hTA.cap hTA.ok hTA.few)
       dsimp only at d0
       have hz4:ofz n (k.dep+1) (one x k.lvs)=0→ticks (tidy (one x k.lvs))≤4096:=fun e=>by rw[ticks_tidy];exact(ofz_ok e).2.2.1
       have hz5:ofz n (k.dep+1) (one x k.lvs)=0→(tidy (one x k.lvs)).length≤96:=fun e=>(ofz_ok e).2.2.2
       generalize ofz n (k.dep+1) (one x k.lvs)=z at HOF hz4 hz5
       generalize tidy (one x k.lvs)=L at HOF hz4 hz5
       have HZ4:=hid hz4
       have HZ5:=hid hz5
       clear c0 ck hx hTA hz4 hz5
       go_wp2_with fail
       refine HOF.out.mono ?_
       rintro e w5 ⟨A4,n4,c4,rfl,hc4,hr4,hb5⟩
       have hb6:=hb.trans (hb5.mono hb.size)
       clear hb5 d0
       by_cases hz:z=0
       ·have hzd:(z != 0)=false:=by rw[hz];rfl
        have hr:=hr4 hz
        have h4:=HZ4.out hz
        have h5:=HZ5.out hz
        have HR:=hid hr
        have hn4:n4≤96:=by rw[← hr.len];exact h5
        clear hr4 hr
        subst hz
        go_wp2_with fail
        go_loopw [14,112] (fun _ s wx=>∃ i:Nat,i≤n4∧s=.int .i64 i∧Below w5.heap.size w5 wx) (fun _ s _=>n4 - (intOf s).toNat)
        case atStart=>exact⟨0,by omega,rfl,Below.refl _ _⟩
        case round =>
         obtain⟨i,hi4,rfl,hb⟩:=hrel
         have HBX:=hid (hb6.trans (hb.mono hb6.size))
         by_cases hlt4:i < n4
         ·obtain⟨ad4,r,rfl,had4,hx4,e0,e1⟩:=(HR.out.on hb).at_ hlt4
          have hbx:=bl1 wr (.cells #[.int .i64 r.p,.int .i64 r.n] 75)
          have HB1:=hid (hb.trans (hbx.mono hb.size))
          have HB2:=hid (HBX.out.trans (hbx.mono HBX.out.size))
          have m0:=HM.out _ HB2.out 0 _ M0.out
          clear hbx hx4 had4 hb
          go_wp2_with fail
          all_goals
           first
           |(go_ret2;exact⟨_,_,rfl,HW.out _ HB2.out⟩)
           |(go_roundw
             case rel=>exact⟨i+1,by omega,by go_num,HB1.out⟩
             case measure=>simp[intOf];omega)
         ·have hge4:n4≤i:=by omega
          have m0:=HM.out _ HBX.out 0 _ M0.out
          have m1:=HM.out _ HBX.out 1 _ M1.out
          have m2:=HM.out _ HBX.out 2 _ M2.out
          have HHO:=hid (holds_any A1 A2 (some ad) A4 n1 n2 n3 n4 c1 c2 c3 c4 P C L wr (HP.out.on (HW.out _ HBX.out)) (HC.out.on (HW.out _ HBX.out)) (HR.out.on hb) (by omega) (by omega) hc4 (by omega) (by omega) (fun x hx=>(HPT.out x hx).per))
          clear hb
          go_wp2_with fail
          refine HHO.out.mono ?_
          rintro e w7 ⟨z,rfl,hb7⟩
          have HB7:=hid (HBX.out.trans (hb7.mono HBX.out.size))
          clear hb7 m0 m1 m2 HHO
          by_cases hz:z=0
          ·have hzd:(z != 0)=false:=by rw[hz];rfl
           subst hz
           go_wp2_with fail
           go_roundw
           case rel=>exact⟨j+1,by omega,by go_num,HB7.out⟩
           case measure=>simp[intOf];omega
          ·have hzd:(z != 0)=true:=bne_iff_ne.2 hz
           go_wp2_with fail
           go_ret2
           exact⟨_,_,rfl,HW.out _ HB7.out⟩
       ·have hzd:(z != 0)=true:=bne_iff_ne.2 hz
        go_wp2_with fail
        go_ret2
        exact⟨_,_,rfl,HW.out _ hb6⟩
      ·have hge:n3≤j:=by omega
       go_wp2_with fail
       go_ret2
       exact⟨_,_,rfl,HW.out _ hb⟩
set_option maxRecDepth 100000 in
theorem cright_any (A1 A2 A3:Option Addr) (n1 n2 n3 c1 c2 c3:Nat) (P:List PtV) (C:List ChV) (T:List TbV) (w:World) (hP:RdB pcl w w.heap.size A1 n1 P) (hC:RdB cc w w.heap.size A2 n2 C) (hT:RdB tcl w w.heap.size A3 n3 T)
  (hp:∀ x∈P,PtAt w w.heap.size x) (ht:∀ t∈T,TbAt w w.heap.size t) :
  Calls Tryz.prog 60 #[.agg #[.slice A1 n1 c1,.slice A2 n2 c2,.slice A3 n3 c3]] w (SomI w):=by
 have hb0:=bl1 w (.cells #[.slice A1 n1 c1,.slice A2 n2 c2,.slice A3 n3 c3] 31)
 have HW:=hid (where_any A1 A2 A3 n1 n2 n3 c1 c2 c3 P C T _ (hP.on hb0) (hC.on hb0) (hT.on hb0) (fun x hx=>(hp x hx).on hb0) (fun t ht'=>(ht t ht').on hb0))
 clear hP hC hT hp ht
 go_enter Tryz.func60,Tryz.ntmps60
 go_wp2_with fail
 refine HW.out.mono ?_
 rintro e w5 ⟨z,i,rfl,hb5⟩
 go_wp2_with fail
 go_ret
 exact⟨_,rfl,hb0.trans (hb5.mono hb0.size)⟩
def FrmT (B b:Nat) (A:Option Addr) (m c:Nat) (f:Nat→Int) (w:World) (e:Ending) (w':World):Prop :=
 ∃(x:Nd) (k:F) (A':Option Addr) (n' c' at':Nat),e=.returned (.slice A' n' c')∧(F.cons x k .nil).ok∧OwnN w' w.heap.size A' n' c' (x::k.flat)∧ofz n' (k.dep+1) (one x k.lvs)=0∧ticks (one x k.lvs)≤90∧(tidy (one x k.lvs)).length≤24∧TapeW w' B b A m c f at'∧w.grownBy w' (some b)
theorem ofz_nought {n D:Nat} {L:List Rn} (h1:n≤128) (h2:D≤16) (h3:ticks L≤4096) (h4:(tidy L).length≤96):ofz n D L=0:=by
 have e:rt n D (ticks L)=0:=by
  unfold rt
  rw[if_neg (by omega),if_neg (by omega),if_neg (by omega)]
 unfold ofz
 rw[if_pos e,if_neg (by omega)]
theorem frm_default {B b:Nat} {A:Option Addr} {m c:Nat} {f:Nat→Int} {w w6:World} {at6 p:Nat} (hp:p < 6) (T6:TapeW w6 B b A m c f at6) (G6:w.grownBy w6 (some b)) :
  FrmT B b A m c f w (.returned (.slice (some ⟨w6.heap.size,0,none⟩) 3 3)) (w6.alloc (.cells #[.int .i64 3,.int .i64 0,.int .i64 2,.int .i64 1,.int .i64 (p:Int),.int .i64 3,.int .i64 2,.int .i64 0,.int .i64 2] 83)):=by
 have e1:one ⟨3,0,2⟩ (F.cons ⟨1,(p:Int),3⟩ .nil (.cons ⟨2,0,2⟩ .nil .nil)).lvs=[⟨(p:Int),3⟩,⟨-1,2⟩]:=rfl
 have ht:ticks [(⟨(p:Int),3⟩:Rn),⟨-1,2⟩]=5:=rfl
 have hl:=tidy_le [(⟨(p:Int),3⟩:Rn),⟨-1,2⟩]
 simp only[List.length_cons,List.length_nil] at hl
 refine⟨⟨3,0,2⟩,.cons ⟨1,(p:Int),3⟩ .nil (.cons ⟨2,0,2⟩ .nil .nil),_,3,3,at6,rfl,⟨by decide,by simp[F.cnt,kn],⟨(fine_iff _ _ _).2 (by omega),by simp[F.cnt,kn],trivial,by decide,by simp[F.cnt,kn],trivial,trivial⟩,trivial⟩,?_,?_,by rw[e1,ht];omega,by rw[e1];omega,T6.below (bl1 _ _) T6.lt,gb_alloc G6 _⟩
 ·refine OwnN.lit w6 w.heap.size _ _ 3 rfl rfl G6.size (by omega) fun y hy=>?_
  simp[F.flat] at hy
  rcases hy with rfl | rfl | rfl <;> exact ndIn_mk (by omega) (by omega) (by omega)
 ·rw[e1]
  exact ofz_nought (by omega) (by simp[F.dep]) (by rw[ht];omega) (by omega)
set_option maxRecDepth 100000 in
set_option maxHeartbeats 4000000 in
theorem frame_any (B b:Nat) (A:Option Addr) (m c:Nat) (f:Nat→Int) (hm:m≤140737488351232) (parts:Nat) (hp1:1≤parts) (hp2:parts≤6) (at_:Nat) (w:World) (T:TapeW w B b A m c f at_) :
  Calls Tryz.prog 31 #[.pointer (some ⟨b,0,none⟩),.int .i64 (parts:Int)] w (FrmT B b A m c f w):=by
 have hblt:=T.lt
 have HTB:=hid (table_any B b A m c f hm parts hp1 hp2 4 at_ w (by omega) T)
 have hdflt:∀(w1:World) (at1:Nat),TapeW w1 B b A m c f at1→w.grownBy w1 (some b)→True:=fun _ _ _ _=>trivial
 clear T hdflt
 go_enter Tryz.func31,Tryz.ntmps31
 go_wp2_with fail
 refine HTB.out.mono ?_
 rintro e w1 ⟨x,k,A1,n1,c1,at1,rfl,hok,ho1,hsz,hdp,T1,G1⟩
 have h5:5 ^ (4+1)=3125:=rfl
 rw[h5] at hsz
 have hn1:=ho1.len
 rw[List.length_cons,F.flat_length] at hn1
 have HOF:=hid (rof_any A1 n1 c1 x k w1 ho1.rdn ho1.cap hok (by omega))
 obtain⟨z,hz⟩:∃ z,z=ofz n1 (k.dep+1) (one x k.lvs):=⟨_,rfl⟩
 rw[← hz] at HOF
 have hTt:ticks (tidy (one x k.lvs))=ticks (one x k.lvs):=ticks_tidy _
 obtain⟨R,hR⟩:∃ R,R=tidy (one x k.lvs):=⟨_,rfl⟩
 rw[← hR] at HOF hTt
 have HOK:=hid hok
 have HO1:=hid ho1
 have HZ:=hid hz
 have HR:=hid hR
 have HTT:=hid hTt
 have HT1:=hid T1
 have HG1:=hid G1
 have HZO:Hid (z=0→ticks R≤4096):=hid fun h0=>by
  rw[HTT.out]
  rw[HZ.out] at h0
  exact(ofz_ok h0).2.2.1
 have hbl1:b < w1.heap.size:=T1.lt
 clear ho1 hok hz hR hTt T1 G1 HTB hsz hdp hn1 h5
 go_wp2_with fail
 refine HOF.out.mono ?_
 rintro e w2 ⟨A2,m2,c2,rfl,hmc2,hr2,hb2⟩
 have HR2:=hid hr2
 have T2:=HT1.out.below hb2 hbl1
 have HT2:=hid T2
 have HG2:=hid (gb_below HG1.out hb2 HG1.out.size)
 have HO2:=hid (OwnN.keep HO1.out (w':=w2) fun k _ hlt=>hb2.block k hlt)
 clear hr2 T2 HOF HT1 HG1 HO1
 have HDF:Hid (∀(w5:World) (at5:Nat),TapeW w5 B b A m c f at5→w.grownBy w5 (some b)→Calls Tryz.prog 30 #[.pointer (some ⟨b,0,none⟩),.int .i64 (parts:Int)] w5 (Nexts B b A m c f parts w5)):=hid fun w5 at5 T5 G5=>next_any B b A m c f at5 parts w5 T5 hp1 (by omega) hm
 by_cases h0:z=0
 ·have hr:=HR2.out h0
  have htk:=HZO.out h0
  by_cases h24:24 < m2
  ·have h24':(24:Int) < (m2:Int):=by omega
   have hz0:(z != 0)=false:=by rw[h0];rfl
   subst h0
   clear hr htk
   go_wp2_with fail
   refine(HDF.out w2 _ HT2.out HG2.out).mono ?_
   rintro e w6 ⟨p,at6,hp,rfl,T6,G6⟩
   have F6:=hid (frm_default (w:=w) (p:=p) (by omega) T6 (gb_trans HG2.out G6))
   clear T6 G6
   go_wp2_with fail
   go_ret
   exact F6.out
  ·have h24':¬ (24:Int) < (m2:Int):=by omega
   have HTO:=hid (total_any A2 m2 c2 R w2 hr hmc2 (by omega) (by omega))
   have hlr:=hr.len
   have hz0:(z != 0)=false:=by rw[h0];rfl
   obtain⟨t,ht⟩:∃ t,t=ticks R:=⟨_,rfl⟩
   rw[← ht] at HTO htk
   have HTE:=hid ht
   have H00:=hid h0
   clear ht hr
   subst h0
   go_wp2_with fail
   refine HTO.out.mono ?_
   rintro e w3 ⟨rfl,hb3⟩
   have hbl2:b < w2.heap.size:=HT2.out.lt
   have T3:=HT2.out.below hb3 hbl2
   have G3:=gb_below HG2.out hb3 HG2.out.size
   have HO3:=hid (OwnN.keep HO2.out (w':=w3) fun k _ hlt=>hb3.block k hlt)
   have HT3:=hid T3
   have HG3:=hid G3
   clear T3 G3 HO2
   by_cases h90:90 < t
   ·have h90':(90:Int) < (t:Int):=by omega
    go_wp2_with fail
    refine(HDF.out w3 _ HT3.out HG3.out).mono ?_
    rintro e w6 ⟨p,at6,hp,rfl,T6,G6⟩
    have F6:=hid (frm_default (w:=w) (p:=p) (by omega) T6 (gb_trans HG3.out G6))
    clear T6 G6
    go_wp2_with fail
    go_ret
    exact F6.out
   ·have h90':¬ (90:Int) < (t:Int):=by omega
    go_wp2_with fail
    go_ret
    refine⟨x,k,A1,n1,c1,at1,rfl,HOK.out,HO3.out,HZ.out.symm,?_,?_,HT3.out,HG3.out⟩
    ·rw[← HTT.out,← HTE.out];omega
    ·rw[← HR.out,hlr];omega
 ·have hz0:(z != 0)=true:=bne_iff_ne.2 h0
  go_wp2_with fail
  refine(HDF.out w2 _ HT2.out HG2.out).mono ?_
  rintro e w6 ⟨p,at6,hp,rfl,T6,G6⟩
  have F6:=hid (frm_default (w:=w) (p:=p) (by omega) T6 (gb_trans HG2.out G6))
  clear T6 G6
  go_wp2_with fail
  go_ret
  exact F6.out
structure Only (p:Nat→Prop) (w w':World):Prop where
 os:w'.os=w.os
 tape:w'.tape=w.tape
 output:w'.output=w.output
 size:w.heap.size≤w'.heap.size
 block:∀ k,k < w.heap.size→¬ p k→w'.heap[k]? = w.heap[k]?
section
variable {p:Nat→Prop} {w w' w2:World}
theorem Only.refl (p:Nat→Prop) (w:World):Only p w w:=⟨rfl,rfl,rfl,Nat.le_refl _,fun _ _ _=>rfl⟩
theorem Only.trans (h:Only p w w') (k:Only p w' w2):Only p w w2 :=
 ⟨k.os.trans h.os,k.tape.trans h.tape,k.output.trans h.output,Nat.le_trans h.size k.size,fun i hi hn=>(k.block i (Nat.lt_of_lt_of_le hi h.size) hn).trans (h.block i hi hn)⟩
theorem Only.bel (h:Below w.heap.size w w'):Only p w w':=⟨h.os,h.tape,h.output,h.size,fun k hk _=>h.block k hk⟩
theorem Only.gb {b:Nat} (h:w.grownBy w' (some b)) (hb:p b):Only p w w':=⟨h.os,h.tape,h.output,h.size,fun k hk hn=>h.block k hk fun e=>by injection e with e;subst e;exact hn hb⟩
theorem Only.set (w:World) (a:Addr) (v:Value) (hb:p a.block):Only p w (w.setCell a v) :=
 ⟨rfl,rfl,rfl,by simp,fun k hk hn=>Below.heap_setCell w a v k fun e=>by subst e;exact hn hb⟩
theorem Only.drewN (h:Only p w w') (q:Nat):Only p w (w'.drewN q):=⟨h.os,h.tape,h.output,h.size,h.block⟩
theorem Only.rdv {B:Nat} {A:Option Addr} {l:List Value} (h:Only p w w') (hr:RdV w w.heap.size A l) (hA:∀ b,obk A=some b→¬ p b):RdV w' w'.heap.size A l:=fun hl=>by
 obtain⟨ad,e,hb,hc⟩:=hr hl
 refine⟨ad,e,Nat.lt_of_lt_of_le hb h.size,fun j v hj=>?_⟩
 rw[World.cell?_of_block (h.block (ad.add j).block (by rw[add_block];exact hb) (by rw[add_block];exact hA _ (by rw[e];rfl)))]
 exact hc j v hj
end
theorem elRR:Elt 104 33 1 24 (.slice none 0 0):=⟨Tryz.underlying104,by kernel_rfl,rfl,by omega⟩
structure Rw where
 a:Option Addr
 n:Nat
 c:Nat
 l:List Rn
def Rw.v (r:Rw):Value:=.slice r.a r.n r.c
theorem rwv_one (T:List Rw):∀ u∈T.map Rw.v,u.oneCell'=true:=by
 intro u hu
 obtain⟨s,_,rfl⟩:=List.mem_map.1 hu
 rfl
structure RwAt (w:World) (r:Rw):Prop where
 rd:RdR w w.heap.size r.a r.n r.l
 cap:r.n≤r.c
 few:r.n≤96
 tk:ticks r.l≤90
theorem RwAt.on {w w':World} {r:Rw} (h:RwAt w r) (hb:Below w.heap.size w w'):RwAt w' r:=⟨h.rd.on hb,h.cap,h.few,h.tk⟩
theorem RwAt.only {p:Nat→Prop} {w w':World} {r:Rw} (h:RwAt w r) (ho:Only p w w') (hA:∀ b,obk r.a=some b→¬ p b):RwAt w' r:=⟨⟨h.rd.len,ho.rdv (B:=0) h.rd.rd hA⟩,h.cap,h.few,h.tk⟩
def Frame (t:TbV):Prop:=ofz t.n (t.k.dep+1) (one t.x t.k.lvs)=0∧ticks (one t.x t.k.lvs)≤90
def rowF (t:TbV):List Rn:=tidy (one t.x t.k.lvs)
theorem rof_new (t:TbV) (w:World) (h:TbAt w w.heap.size t) (hf:Frame t) :
  Calls Tryz.prog 17 #[.slice t.A t.n t.c] w fun e w'=>∃ r:Rw,e=.returned (.tuple #[r.v,.int .i64 0])∧RwAt w' r∧Below w.heap.size w w'∧(∀ b,obk r.a=some b→w.heap.size≤b∧b < w'.heap.size)∧r.l=rowF t:=by
 obtain⟨hz,ht⟩:=hf
 have hk:=ofz_ok hz
 have hR:=rright_tree t.A t.n t.c _ t.x t.k w h.rd h.cap h.few h.ok rfl
 have e:F.tick t.x t.k.len=ticks (one t.x t.k.lvs):=by rw[one_ticks,lvs_ticks]
 have h0:rt t.n (t.k.dep+1) (F.tick t.x t.k.len)=0:=by
  rw[e]
  unfold rt
  rw[if_neg (by omega),if_neg (by omega),if_neg (by omega)]
 rw[h0] at hR
 refine(rof_tree t.A t.n t.c t.x t.k w h.rd h.cap h.ok hk.1 hk.2.1 (by rw[e];exact hk.2.2.1) hR).mono fun e w' ho=>?_
 unfold OfR at ho
 rw[if_neg (by omega)] at ho
 obtain⟨A,c,rfl,hr,hc,hb,hn⟩:=ho
 refine⟨⟨A,_,c,tidy (one t.x t.k.lvs)⟩,rfl,⟨hr,hc,hk.2.2.2,by rw[ticks_tidy];exact ht⟩,hb,fun b hb=>?_,rfl⟩
 cases A with
 | none=>cases hb
 | some ad =>
  injection hb with hb
  have hb:ad.block=b:=hb
  have h1:=hn ad rfl
  obtain⟨ad',_,e1,h2,_⟩:=hr.at_ (i:=0) (ofz_runs h.ok).1
  injection e1 with e1
  subst e1
  omega
structure Asked (p:Nat→Prop) (w:World) (A3:Option Addr) (n3:Nat) (P:List PtV) (T:List TbV):Prop where
 t:RdB tcl w w.heap.size A3 n3 T
 tt:∀ t∈T,TbAt w w.heap.size t∧Frame t
 pt:∀ x∈P,PtAt w w.heap.size x
 s3:∀ b,obk A3=some b→¬ p b
 st:∀ t∈T,∀ b,obk t.A=some b→¬ p b
 sp:∀ x∈P,∀ b,obk x.pa=some b→¬ p b
theorem ProcsAt.only {p:Nat→Prop} {w w':World} {A:Option Addr} {n:Nat} (h:ProcsAt w w.heap.size A n) (ho:Only p w w') (hA:∀ b,obk A=some b→¬ p b):ProcsAt w' w'.heap.size A n:=fun i hi=>by
 obtain⟨ad,e,q,h1,hB,h2,h3⟩:=h i hi
 have hk:=ho.block ad.block hB (hA _ (by rw[h1];rfl))
 refine⟨ad,e,q,h1,Nat.lt_of_lt_of_le hB ho.size,?_,?_⟩
 ·exact(World.cell?_of_block (w:=w) (w':=w') (a:=ad.add (i*2)) (by rw[add_block];exact hk)).trans h2
 ·exact(World.cell?_of_block (w:=w) (w':=w') (a:=⟨(ad.add (i*2)).block,(ad.add (i*2)).off+1,none⟩) (by show w'.heap[(ad.add (i*2)).block]? = w.heap[(ad.add (i*2)).block]?;rw[add_block];exact hk)).trans h3
theorem Asked.only {p:Nat→Prop} {w w':World} {A3:Option Addr} {n3:Nat} {P:List PtV} {T:List TbV} (h:Asked p w A3 n3 P T) (ho:Only p w w'):Asked p w' A3 n3 P T :=
 ⟨⟨h.t.len,ho.rdv (B:=0) h.t.rd h.s3⟩,fun t ht=>⟨⟨⟨(h.tt t ht).1.rd.len,ho.rdv (B:=0) (h.tt t ht).1.rd.rd (h.st t ht),(h.tt t ht).1.rd.bd⟩,(h.tt t ht).1.cap,(h.tt t ht).1.ok,(h.tt t ht).1.few⟩,(h.tt t ht).2⟩,
  fun x hx=>⟨(h.pt x hx).per,(h.pt x hx).name,(h.pt x hx).few,(h.pt x hx).procs.only ho (h.sp x hx)⟩,h.s3,h.st,h.sp⟩
theorem OwnB.cell {α:Type} {E s:Nat} {f:α→List Value} {w:World} {B g n c:Nat} {l:List α} (h:OwnB E s f w B (some ⟨g,0,none⟩) n c l) (hf:∀ x,(f x).length=s) {i k:Nat} {x:α} {v:Value} (hx:l[i]? = some x) (hk:k < s) (hv:(f x)[k]? = some v):w.cell? ⟨g,i*s+k,none⟩=some v∧w.frozen? ⟨g,i*s+k,none⟩=false:=by
 have hi:i < l.length:=(List.getElem?_eq_some_iff.1 hx).1
 have h1:(i+1)*s≤l.length*s:=Nat.mul_le_mul_right _ hi
 rw[Nat.succ_mul] at h1
 refine⟨?_,World.ownsRow.frozenAt h.own _⟩
 rw[World.ownsRow.cellAt h.own (i*s+k) (by rw[← h.len];omega),flat_get hf l i k x hx hk]
 exact hv
theorem OwnB.put {α:Type} {E s:Nat} {f:α→List Value} {w:World} {B g n c:Nat} {l:List α} (h:OwnB E s f w B (some ⟨g,0,none⟩) n c l) (hf:∀ x,(f x).length=s) {i k:Nat} {x y:α} {v:Value} (hx:l[i]? = some x) (hk:k < s) (hy:f y=(f x).set k v) :
  OwnB E s f (w.setCell ⟨g,i*s+k,none⟩ v) B (some ⟨g,0,none⟩) n c (l.set i y):=by
 have hi:i < l.length:=(List.getElem?_eq_some_iff.1 hx).1
 have h1:(i+1)*s≤l.length*s:=Nat.mul_le_mul_right _ hi
 rw[Nat.succ_mul] at h1
 refine⟨by rw[List.length_set];exact h.len,?_⟩
 rw[flat_set hf l i k x y v hx hk hy]
 refine h.own.set (i*s+k) v ?_
 rw[flat_len hf]
 omega
theorem OwnB.gb {α:Type} {E s:Nat} {f:α→List Value} {w w':World} {B b n c:Nat} {A:Option Addr} {l:List α} (h:OwnB E s f w B A n c l) (hg:w.grownBy w' (some b)) (hb:b < B):OwnB E s f w' B A n c l:=⟨h.len,h.own.gb hg hb⟩
structure AskS (p:Nat→Prop) (B b:Nat) (A:Option Addr) (m c:Nat) (f:Nat→Int) (A1 A2:Option Addr) (n1 n2 c1 c2 B1:Nat) (P0:List PtV) (C0:List ChV) (W w:World) (P:List PtV) (C:List ChV):Prop where
 pp:OwnB 68 11 pcl w B1 A1 n1 c1 P
 ch:OwnB 42 6 cc w B1 A2 n2 c2 C
 pm:P.map ptOf=P0.map ptOf
 cm:C.map chOf=C0.map chOf
 tp:∃ at_,TapeW w B b A m c f at_
 on:Only p W w
section
variable {p:Nat→Prop} {B b:Nat} {A:Option Addr} {m c:Nat} {f:Nat→Int} {A1 A2:Option Addr} {n1 n2 c1 c2 B1:Nat} {P0:List PtV} {C0:List ChV} {W w w':World} {P:List PtV} {C:List ChV}
theorem AskS.bel (h:AskS p B b A m c f A1 A2 n1 n2 c1 c2 B1 P0 C0 W w P C) (hb:Below w.heap.size w w'):AskS p B b A m c f A1 A2 n1 n2 c1 c2 B1 P0 C0 W w' P C:=by
 obtain⟨at_,T⟩:=h.tp
 exact⟨h.pp.below hb,h.ch.below hb,h.pm,h.cm,⟨at_,T.below hb T.lt⟩,h.on.trans (Only.bel hb)⟩
theorem AskS.next (h:AskS p B b A m c f A1 A2 n1 n2 c1 c2 B1 P0 C0 W w P C) {at_:Nat} (T:TapeW w' B b A m c f at_) (hg:w.grownBy w' (some b)) (hb:b < B1) (hp:p b):AskS p B b A m c f A1 A2 n1 n2 c1 c2 B1 P0 C0 W w' P C :=
 ⟨h.pp.gb hg hb,h.ch.gb hg hb,h.pm,h.cm,⟨at_,T⟩,h.on.trans (Only.gb hg hp)⟩
theorem TapeW.other {at_:Nat} (h:TapeW w B b A m c f at_) (q:Addr) (v:Value) (hq:B1≤q.block) (hb:b < B1):TapeW (w.setCell q v) B b A m c f at_ :=
 h.below (Bs:=B1) ((Below.refl _ _).setCell hq v) hb
theorem map_set_same {α β:Type} {f:α→β} {l:List α} {i:Nat} {x y:α} (hx:l[i]? = some x) (h:f y=f x):(l.set i y).map f=l.map f:=by
 obtain⟨hi,e⟩:=List.getElem?_eq_some_iff.1 hx
 apply List.ext_getElem?
 intro j
 rw[List.getElem?_map,List.getElem?_map,List.getElem?_set]
 by_cases hj:i=j
 ·subst hj
  rw[if_pos rfl,if_pos hi,hx]
  simp[h]
 ·rw[if_neg hj]
theorem AskS.late {g:Nat} (h:AskS p B b A m c f A1 (some ⟨g,0,none⟩) n1 n2 c1 c2 B1 P0 C0 W w P C) {i:Nat} {x:ChV} (hx:C[i]? = some x) (z:Int) (hb:b < B1) (hp:p g) (h12:obk A1≠some g) :
  AskS p B b A m c f A1 (some ⟨g,0,none⟩) n1 n2 c1 c2 B1 P0 C0 W (w.setCell ⟨g,i*6+5,none⟩ (.int .i64 z)) P (C.set i { x with late:=z }):=by
 obtain⟨at_,T⟩:=h.tp
 have hBg:B1≤g:=(h.ch.own.obk_ge rfl).1
 exact⟨h.pp.other _ _ fun g' e=>fun e2=>h12 (by rw[e];exact congrArg some e2),h.ch.put cc_len hx (by omega) (cc_late x z),h.pm,(map_set_same hx (show chOf { x with late:=z }=chOf x from rfl)).trans h.cm,⟨at_,T.other ⟨g,i*6+5,none⟩ _ hBg hb⟩,h.on.trans (Only.set _ _ _ hp)⟩
theorem AskS.ask {g:Nat} (h:AskS p B b A m c f (some ⟨g,0,none⟩) A2 n1 n2 c1 c2 B1 P0 C0 W w P C) {i:Nat} {x:PtV} (hx:P[i]? = some x) (y z:Int) (hb:b < B1) (hp:p g) (h12:obk A2≠some g) :
  AskS p B b A m c f (some ⟨g,0,none⟩) A2 n1 n2 c1 c2 B1 P0 C0 W ((w.setCell ⟨g,i*11+1,none⟩ (.int .i64 y)).setCell ⟨g,i*11+2,none⟩ (.int .i64 z)) (P.set i { x with bud:=y,per:=z }) C:=by
 obtain⟨at_,T⟩:=h.tp
 have hBg:B1≤g:=(h.pp.own.obk_ge rfl).1
 have h1:=h.pp.put pcl_len hx (by omega) (pcl_bud x y)
 have hx1:(P.set i { x with bud:=y })[i]? = some { x with bud:=y }:=List.getElem?_set_self (List.getElem?_eq_some_iff.1 hx).1
 have h2:=h1.put pcl_len hx1 (by omega) (pcl_per { x with bud:=y } z)
 rw[List.set_set] at h2
 exact⟨h2,(h.ch.other _ _ fun g' e=>fun e2=>h12 (by rw[e];exact congrArg some e2)).other _ _ fun g' e=>fun e2=>h12 (by rw[e];exact congrArg some e2),(map_set_same hx (show ptOf { x with bud:=y,per:=z }=ptOf x from rfl)).trans h.pm,h.cm,
  ⟨at_,(T.other ⟨g,i*11+1,none⟩ _ hBg hb).other ⟨g,i*11+2,none⟩ _ hBg hb⟩,(h.on.trans (Only.set _ _ _ hp)).trans (Only.set _ _ _ hp)⟩
end
theorem loadVar_runC {w:World} {g:Nat} {v0 v1 v2:Value} (h0:w.cell? ⟨g,0,none⟩=some v0) (h1:w.cell? ⟨g,1,none⟩=some v1) (h2:w.cell? ⟨g,2,none⟩=some v2):(loadVar 31 ⟨g,0,none⟩).run Tryz.prog w=.ok (.agg #[v0,v1,v2]) w:=by
 have e:(isAgg 31).run Tryz.prog w=.ok true w:=by go_simp
 have e2:(sizeOf 31).run Tryz.prog w=.ok 3 w:=by go_simp
 unfold loadVar
 rw[Sem.run_bind,e,Result.andThen_ok]
 simp only[if_true]
 rw[Sem.run_bind,e2,Result.andThen_ok,Sem.run_bind]
 have:=run_loadCells_list (P:=Tryz.prog) (w:=w) ⟨g,0,none⟩ [v0,v1,v2] (fun j v hj=>by
  match j with
  | 0=>simp at hj;subst hj;simpa [Addr.add] using h0
  | 1=>simp at hj;subst hj;simpa [Addr.add] using h1
  | 2=>simp at hj;subst hj;simpa [Addr.add] using h2
  | j+3=>simp at hj)
 simp only[List.length_cons,List.length_nil] at this
 rw[this,Result.andThen_ok]
 rfl
theorem results_runC {fn:Func} {p:Tmp} (h:fn.results=#[.cell p 31]) {tmps:Array Value} {w:World} {g:Nat} {v0 v1 v2:Value} (hp:tmps.getD p undef=.pointer (some ⟨g,0,none⟩)) (h0:w.cell? ⟨g,0,none⟩=some v0) (h1:w.cell? ⟨g,1,none⟩=some v1) (h2:w.cell? ⟨g,2,none⟩=some v2) :
  (results fn tmps).run Tryz.prog w=.ok (.agg #[v0,v1,v2]) w:=by
 have e:(asAddr (.pointer (some ⟨g,0,none⟩))).run Tryz.prog w=.ok ⟨g,0,none⟩ w:=rfl
 rw[results_cell1 h,hp,e,Result.andThen_ok,loadVar_runC h0 h1 h2]
theorem Only.new {p:Nat→Prop} {w w':World} (h:Only p w w') (a:Addr) (v:Value) (ha:w.heap.size≤a.block):Only p w (w'.setCell a v) :=
 ⟨h.os,h.tape,h.output,by have:=h.size;simpa using this,fun k hk hn=>(Below.heap_setCell w' a v k (by omega)).trans (h.block k hk hn)⟩
def set3 (w:World) (g:Nat) (v0 v1 v2:Value):World:=((w.setCell ⟨g,0,none⟩ v0).setCell ⟨g,1,none⟩ v1).setCell ⟨g,2,none⟩ v2
theorem set3_cells {w:World} {g:Nat} {f:Nat→Value} (h:Vec w g 3 f) (v0 v1 v2:Value):(set3 w g v0 v1 v2).cell? ⟨g,0,none⟩=some v0∧(set3 w g v0 v1 v2).cell? ⟨g,1,none⟩=some v1∧(set3 w g v0 v1 v2).cell? ⟨g,2,none⟩=some v2:=by
 have h3:=((h.set 0 v0).set 1 v1).set 2 v2
 refine⟨(h3.cell 0 (by omega)).trans ?_,(h3.cell 1 (by omega)).trans ?_,(h3.cell 2 (by omega)).trans ?_⟩ <;> rfl
theorem AskS.res {p:Nat→Prop} {B b:Nat} {A:Option Addr} {m c:Nat} {f:Nat→Int} {A1 A2:Option Addr} {n1 n2 c1 c2 B1:Nat} {P0:List PtV} {C0:List ChV} {w0 W w:World} {P:List PtV} {C:List ChV}
  (h:AskS p B b A m c f A1 A2 n1 n2 c1 c2 B1 P0 C0 W w P C) (h0:Only p w0 W) (g:Nat) (v0 v1 v2:Value) (hg:w0.heap.size≤g) (hp:∀ k,p k→k < w0.heap.size) (hb:p b) (h1:∀ k,obk A1=some k→p k) (h2:∀ k,obk A2=some k→p k) :
  RdB pcl (set3 w g v0 v1 v2) (set3 w g v0 v1 v2).heap.size A1 n1 P∧RdB cc (set3 w g v0 v1 v2) (set3 w g v0 v1 v2).heap.size A2 n2 C∧(∃ at_,TapeW (set3 w g v0 v1 v2) B b A m c f at_)∧Only p w0 (set3 w g v0 v1 v2)∧OwnB 68 11 pcl (set3 w g v0 v1 v2) B1 A1 n1 c1 P∧OwnB 42 6 cc (set3 w g v0 v1 v2) B1 A2 n2 c2 C:=by
 have hs:(set3 w g v0 v1 v2).heap.size=w.heap.size:=by simp[set3]
 have n1':∀ k,obk A1=some k→k≠g:=fun k e=>by have:=hp k (h1 k e);omega
 have n2':∀ k,obk A2=some k→k≠g:=fun k e=>by have:=hp k (h2 k e);omega
 obtain⟨at_,T⟩:=h.tp
 have hbl:Below w0.heap.size w (set3 w g v0 v1 v2):=(((Below.refl _ _).setCell (p:=⟨g,0,none⟩) hg v0).setCell (p:=⟨g,1,none⟩) hg v1).setCell (p:=⟨g,2,none⟩) hg v2
 refine⟨?_,?_,⟨at_,T.below hbl (hp b hb)⟩,(((h0.trans h.on).new ⟨g,0,none⟩ v0 hg).new ⟨g,1,none⟩ v1 hg).new ⟨g,2,none⟩ v2 hg,?_,?_⟩
 ·rw[hs]
  exact((h.pp.rdb.other ⟨g,0,none⟩ v0 n1').other ⟨g,1,none⟩ v1 n1').other ⟨g,2,none⟩ v2 n1'
 ·rw[hs]
  exact((h.ch.rdb.other ⟨g,0,none⟩ v0 n2').other ⟨g,1,none⟩ v1 n2').other ⟨g,2,none⟩ v2 n2'
 ·have k1:∀ g':Nat,A1=some ⟨g',0,none⟩→g'≠g:=fun g' e=>n1' g' (by rw[e];rfl)
  exact((h.pp.other ⟨g,0,none⟩ v0 k1).other ⟨g,1,none⟩ v1 k1).other ⟨g,2,none⟩ v2 k1
 ·have k2:∀ g':Nat,A2=some ⟨g',0,none⟩→g'≠g:=fun g' e=>n2' g' (by rw[e];rfl)
  exact((h.ch.other ⟨g,0,none⟩ v0 k2).other ⟨g,1,none⟩ v1 k2).other ⟨g,2,none⟩ v2 k2
structure OwnIt (w:World) (B:Nat) (A:Option Addr) (n c:Nat) (I:Itr):Prop where
 len:I.length=n
 ex:∃ V,OwnV 37 1 w B A n c V∧CelI w I V∧∀ v∈V,∀ A1 n1 c1 b,v=.slice A1 n1 c1→obk A1=some b→obk A≠some b
theorem OwnIt.rd {w:World} {B n c:Nat} {A:Option Addr} {I:Itr} (h:OwnIt w B A n c I):RdItr w A n I:=by
 obtain⟨V,h1,h2,_⟩:=h.ex
 exact⟨h.len,V,h1.rd,h2⟩
theorem OwnIt.below {w w':World} {B n c:Nat} {A:Option Addr} {I:Itr} (h:OwnIt w B A n c I) (hb:Below w.heap.size w w'):OwnIt w' B A n c I:=by
 obtain⟨V,h1,h2,h3⟩:=h.ex
 exact⟨h.len,V,h1.below rfl hb,h2.on hb,h3⟩
theorem OwnIt.nil (w:World) (B:Nat):OwnIt w B none 0 0 []:=⟨rfl,[],OwnV.nil _ _ _ _,CelI.nil w,fun v hv=>by cases hv⟩
theorem CelI.only {w w':World} {I:Itr} {V:List Value} {p:Nat→Prop} (h:CelI w I V) (ho:Only p w w') (hv:∀ v∈V,∀ A1 n1 c1 b,v=.slice A1 n1 c1→obk A1=some b→¬ p b):CelI w' I V:=⟨h.1,fun i x v hx hvi=>by
 obtain⟨h1,A,c,e,hc,hr⟩:=h.2 i x v hx hvi
 exact⟨h1,A,c,e,hc,⟨hr.len,ho.rdv (B:=0) hr.rd fun b hb=>hv v (List.mem_of_getElem? hvi) _ _ _ b e hb,hr.bd⟩⟩⟩
theorem OwnIt.push {w w':World} {B n c' g:Nat} {A A':Option Addr} {I:Itr} {x:List Nd} {V:List Value} {d:Nat} (hl:I.length=n) (h2:CelI w I V) (h3:∀ v∈V,∀ A1 n1 c1 b,v=.slice A1 n1 c1→obk A1=some b→obk A≠some b)
  (hx1:1≤x.length) (hxc:x.length≤d) (hr:RdN w w.heap.size (some ⟨g,0,none⟩) x.length x) (hg:obk A≠some g) (hgl:g < w.heap.size)
  (hown:OwnV 37 1 w' B A' (n+1) c' (V++[.slice (some ⟨g,0,none⟩) x.length d])) (hgr:Grew A A' w w'):OwnIt w' B A' (n+1) c' (I++[x]):=by
 have hon:Only (fun k=>obk A=some k) w w':=⟨hgr.gb.os,hgr.gb.tape,hgr.gb.output,hgr.gb.size,fun k hk hn=>hgr.gb.block k hk fun e=>hn e.symm⟩
 have hlt:∀ v∈V,∀ A1 n1 c1 b,v=.slice A1 n1 c1→obk A1=some b→b < w.heap.size:=fun v hv A1 n1 c1 b e hb=>by
  obtain⟨i,hi,rfl⟩:=List.mem_iff_getElem.1 hv
  obtain⟨h4,A2,c2,e2,hc2,hr2⟩:=h2.2 i _ _ (List.getElem?_eq_getElem (by rw[← h2.1];exact hi)) (List.getElem?_eq_getElem hi)
  rw[e] at e2
  injection e2 with e2 _ _
  subst e2
  obtain⟨ad,e5,hb5,_⟩:=hr2.rd (by rw[ns_length];omega)
  rw[e5] at hb
  have hb:ad.block=b:=Option.some.inj hb
  omega
 have hnew:∀ b,b < w.heap.size→obk A≠some b→obk A'≠some b:=fun b hb hne e=>by
  rcases hgr.at_ with h5 | ⟨k,h5,h6⟩
  ·exact hne (h5▸e)
  ·rw[h5] at e;injection e with e;omega
 refine⟨by rw[List.length_append,hl];rfl,_,hown,?_,?_⟩
 ·refine(h2.only hon fun v hv A1 n1 c1 b e hb=>fun hp=>h3 v hv A1 n1 c1 b e hb hp).append (CelI.single hx1 hxc ⟨hr.len,?_,hr.bd⟩)
  exact hon.rdv (B:=0) hr.rd fun b hb hp=>by injection hb with hb;exact hg (by rw[hp,← hb])
 ·intro v hv A1 n1 c1 b e hb
  rcases List.mem_append.1 hv with hv | hv
  ·exact hnew b (hlt v hv A1 n1 c1 b e hb) (h3 v hv A1 n1 c1 b e hb)
  ·simp at hv
   rw[hv] at e
   injection e with e _ _
   subst e
   injection hb with hb
   have hb:g=b:=hb
   subst hb
   exact hnew g hgl hg
def MadeIt (I:Itr) (w:World) (e:Ending) (w':World):Prop:=∃ A c,e=.returned (.slice A I.length c)∧RdItr w' A I.length I∧I.length≤c∧Below w.heap.size w w'
theorem itemsI_more {L:List Rn} {i:Nat} {r:Rn} (h:L[i]? = some r):itemsI (L.take (i+1))=itemsI (L.take i)++[[leafN r]]:=by
 obtain⟨hi,e⟩:=List.getElem?_eq_some_iff.1 h
 rw[List.take_succ_eq_append_getElem hi,e]
 simp[itemsI]
set_option maxRecDepth 100000 in
set_option maxHeartbeats 4000000 in
theorem ritems_any (A:Option Addr) (n cap:Nat) (L:List Rn) (w:World) (h:RdR w w.heap.size A n L) (hc:n≤cap) (hL:Frm L n) :
  Calls Tryz.prog 96 #[.slice A n cap] w (MadeIt (itemsI L) w):=by
 have hn:=hL.le
 have HS:=hid hL.small
 have HH:=hid h
 have HL:=hid h.len
 have HLI:=hid (itemsI_len L)
 clear h hL
 go_enter Tryz.func96,Tryz.ntmps96
 go_wp2_with fail
 go_loopw [3,5,8] (fun t3 _ t8 wr=>∃(i c:Nat) (B:Option Addr),i≤n∧t8=.int .i64 i∧t3=.slice B i c∧OwnIt wr w.heap.size B i c (itemsI (L.take i))∧Below w.heap.size w wr) (fun _ _ t8 _=>n - (intOf t8).toNat)
 case atStart=>exact⟨0,0,none,by omega,rfl,rfl,by simpa [itemsI] using OwnIt.nil w w.heap.size,Below.refl _ _⟩
 case round =>
  obtain⟨i,c,B,hi,rfl,rfl,hown,hb⟩:=hrel
  by_cases hin:i < n
  ·have hini:(i:Int) < (n:Int):=by omega
   obtain⟨ad,r,rfl,had,hr,c0,c1⟩:=(HH.out.on hb).at_ hin
   have hsm:=HS.out r (List.mem_of_getElem? hr)
   have HMO:=hid (itemsI_more hr)
   have hbl:=bl1 wr (.cells #[.int .i64 r.p,.int .i64 (r.n:Int)] 75)
   have g0:(wr.alloc (.cells #[.int .i64 r.p,.int .i64 (r.n:Int)] 75)).cell? ⟨wr.heap.size,0,none⟩=some (.int .i64 r.p):=World.cell?_alloc_mark _ _ _ _ _
   have g1:(wr.alloc (.cells #[.int .i64 r.p,.int .i64 (r.n:Int)] 75)).cell? ⟨wr.heap.size,1,none⟩=some (.int .i64 (r.n:Int)):=World.cell?_alloc_mark _ _ _ _ _
   have HOW:=hid (hown.below hbl)
   have HB1:=hid (hb.trans (hbl.mono hb.size))
   clear hown hb hbl hr
   go_upto_region 5 with fail
   generalize wr.alloc (.cells #[.int .i64 r.p,.int .i64 (r.n:Int)] 75)=W1 at g0 g1 HOW HB1 ⊢
   generalize wr.heap.size=gx at g0 g1 ⊢
   clear c0 c1 had
   have HLF:=hid (rleaf_any r W1)
   have hin':NdIn (leafN r):=by
    unfold leafN NdIn
    unfold In64 at hsm ⊢
    split <;> dsimp only <;> omega
   have HIN:=hid hin'
   have HLE:=hid (show leafN r=⟨(leafN r).k,(leafN r).p,(leafN r).n⟩ from rfl)
   obtain⟨rp,rn⟩:=r
   dsimp only at g0 g1 hsm
   clear hin'
   generalize leafN ⟨rp,rn⟩=nd1 at HLF HIN HLE HMO
   obtain⟨k1,k2,k3⟩:=nd1
   have HLF':Hid (Calls Tryz.prog 134 #[rv rp (rn:Int)] W1 (Ans (nd k1 k2 k3) W1)):=HLF
   clear HLF HLE
   go_wp2_with fail
   refine HLF'.out.mono ?_
   rintro e w2 ⟨rfl,hb2⟩
   have hB2:=HB1.out.trans (hb2.mono HB1.out.size)
   have how2:=HOW.out.below hb2
   have hbx:=bl1 w2 (.cells #[.int .i64 k1,.int .i64 k2,.int .i64 k3] 83)
   have hby:=bl1 (w2.alloc (.cells #[.int .i64 k1,.int .i64 k2,.int .i64 k3] 83)) (.cells #[.slice (some ⟨w2.heap.size,0,none⟩) 1 1] 37)
   have hxy:=hbx.trans (hby.mono hbx.size)
   have hsz:(w2.alloc (.cells #[.int .i64 k1,.int .i64 k2,.int .i64 k3] 83)).heap.size=w2.heap.size+1:=by simp
   have hrn:RdN (w2.alloc (.cells #[.int .i64 k1,.int .i64 k2,.int .i64 k3] 83)) (w2.alloc (.cells #[.int .i64 k1,.int .i64 k2,.int .i64 k3] 83)).heap.size (some ⟨w2.heap.size,0,none⟩) 1 [⟨k1,k2,k3⟩]:=⟨rfl,rdV_new w2 _ _ _ rfl,fun y hy=>by simp at hy;subst hy;exact HIN.out⟩
   have HRN:=hid (hrn.on hby)
   have hrv:=rdV_new (w2.alloc (.cells #[.int .i64 k1,.int .i64 k2,.int .i64 k3] 83)) #[.slice (some ⟨w2.heap.size,0,none⟩) 1 1] 37 [.slice (some ⟨w2.heap.size,0,none⟩) 1 1] rfl
   rw[hsz] at hrv
   have hne:∀ b,obk B=some b→b < w2.heap.size:=fun b e=>by
    obtain⟨V,h1,_⟩:=how2.ex
    exact(OwnV.obk_ge h1 e).2
   have hox:=how2.below hxy
   have HNE:=hid hne
   have HSZ2:Hid (w2.heap.size < ((w2.alloc (.cells #[.int .i64 k1,.int .i64 k2,.int .i64 k3] 83)).alloc (.cells #[.slice (some ⟨w2.heap.size,0,none⟩) 1 1] 37)).heap.size):=hid (by simp;omega)
   obtain⟨V,hV1,hV2,hV3⟩:=hox.ex
   have HLV:=hid hox.len
   have HV2:=hid hV2
   have HV3:=hid hV3
   have HBX:=hid (hB2.trans (hxy.mono hB2.size))
   have hsB:w.heap.size≤((w2.alloc (.cells #[.int .i64 k1,.int .i64 k2,.int .i64 k3] 83)).alloc (.cells #[.slice (some ⟨w2.heap.size,0,none⟩) 1 1] 37)).heap.size:=HBX.out.size
   clear hb2 hB2 how2 hbx hby hxy hrn hne hox hV2 hV3 HOW hsz g0 g1
   go_wp2_with (at_builtin;go_loud (refine wpList_appX elL rfl (.tmp 12) (.tmp 16) rfl rfl w.heap.size B i c V rfl hV1 _ 1 1 _ _ rfl hrv rfl Nat.one_pos (by intro u hu;simp at hu;subst hu;rfl) (by omega) (by unfold maxLen;omega) hsB (i+1) rfl _ rfl ?_;intro A8 c8 w8 hw8 hb8 hgr8))
   go_roundw
   case rel=>exact⟨i+1,c8,A8,by omega,by go_num,rfl,by rw[HMO.out];exact OwnIt.push HLV.out HV2.out HV3.out (Nat.le_refl 1) (Nat.le_refl 1) HRN.out (fun e=>by have:=HNE.out _ e;omega) HSZ2.out hw8 hgr8,HBX.out.trans hb8⟩
   case measure=>simp[intOf];omega
  ·have hini:¬ (i:Int) < (n:Int):=by omega
   obtain rfl:i=n:=by omega
   have e:L.take i=L:=List.take_of_length_le (by rw[HL.out];exact Nat.le_refl _)
   rw[e] at hown
   have HO:=hid hown
   have HB:=hid hb
   clear hown hb
   have hlen:(itemsI L).length=i:=by rw[HLI.out,HL.out]
   have HLEN:=hid hlen
   clear hlen
   go_wp2_with fail
   go_ret
   exact⟨B,c,by rw[HLEN.out];rfl,by rw[HLEN.out];exact HO.out.rd,by rw[HLEN.out];obtain⟨V,h1,_⟩:=HO.out.ex;exact h1.cap,HB.out⟩
def NodR (l:List Nd) (w:World) (e:Ending) (w':World):Prop:=∃ A c,e=.returned (.slice A l.length c)∧OwnN w' w.heap.size A l.length c l∧Below w.heap.size w w'
theorem OwnN.low {w:World} {B B' n c:Nat} {A:Option Addr} {l:List Nd} (h:OwnN w B A n c l) (hB:B'≤B):OwnN w B' A n c l:=by
 refine⟨h.len,⟨h.own.1,?_⟩,h.bd⟩
 rcases h.own.2 with hv | ⟨g,cap,cur,hv,hbg,r⟩
 ·exact .inl hv
 ·exact .inr ⟨g,cap,cur,hv,Nat.le_trans hB hbg,r⟩
theorem parts_ne (f:F):∀ x∈parts f,1≤x.length:=by
 induction f with
 | nil=>intro x hx;cases hx
 | cons x k r _ hr =>
  intro y hy
  simp only[parts] at hy
  rcases List.mem_cons.1 hy with rfl | hy
  ·simp
  ·exact hr y hy
set_option maxRecDepth 100000 in
set_option maxHeartbeats 8000000 in
theorem rtable_any (A:Option Addr) (n cap:Nat) (L:List Rn) (w:World) (h:RdR w w.heap.size A n L) (hc:n≤cap) (hL:Frm L n) :
  Calls Tryz.prog 69 #[.slice A n cap] w (NodR (tabI n (itemsI L)) w):=by
 have hn:=hL.le
 have hp:=hL.pos
 have hlen:=h.len
 have HR:=hid (rruns_any A n cap L w h hc hL)
 have HV:=hid fun(w':World) (h':RdR w' w'.heap.size A n L)=>ritems_any A n cap L w' h' hc hL
 have HI0:=hid (Items.start hL.all (by omega))
 have e1:=itemsI_len L
 generalize hT:tabI n (itemsI L)=T
 have HT:=hid hT
 unfold MadeIt at HV
 rw[e1,hlen] at HV
 clear hL e1 hT
 go_enter Tryz.func69,Tryz.ntmps69
 go_wp2_with fail
 refine HR.out.mono ?_
 rintro e w1 ⟨rfl,hb1⟩
 go_wp2_with fail
 refine(HV.out w1 (h.on hb1)).mono ?_
 rintro e w2 ⟨A2,c2,rfl,hr2,hc2,hb2⟩
 have hb3:=hb1.trans (hb2.mono hb1.size)
 clear HV HR h
 go_wp2_with fail
 go_loopw [3,4,5,6,7,8] (fun t3 _ _ _ _ _ wr=>∃(m f c:Nat) (B:Option Addr) (fo:F),t3=.slice B m c∧m≤c∧Items L fo∧RdItr wr B m (parts fo)∧tabI f (parts fo)=T∧m≤f+1∧Below w.heap.size w wr) (fun t3 _ _ _ _ _ _=>lenOf t3)
 case atStart=>exact⟨n,n,c2,A2,itemsF L,rfl,hc2,HI0.out,by rw[itemsI_parts];exact hr2,by rw[itemsI_parts];exact HT.out,by omega,hb3⟩
 case round =>
  obtain⟨m,f,c,B,fo,rfl,hmc,hit,hrd,hta,hmf,hb⟩:=hrel
  have hsm:=hit.small
  have hml:=hrd.len
  have HIT:=hid hit
  have HTA:=hid hta
  have HBE:=hid (rbest_any B m c wr.heap.size (parts fo) wr hrd.rdl hmc (by omega) (by omega))
  rw[bestR_is (parts_ne fo)] at HBE
  obtain⟨s,hs⟩:∃ s,s=bestI (parts fo):=⟨_,rfl⟩
  rw[← hs] at HBE
  have HSB:=hid hs
  have HRD:=hid hrd
  clear hit hta hs hrd
  go_wp2_with fail
  refine HBE.out.mono ?_
  rintro e w4 ⟨rfl,q,rfl⟩
  have hbq:Below wr.heap.size wr (wr.drewN q):=Below.drewN (Below.refl _ _) q
  have HRQ:=hid (HRD.out.on hbq)
  have HBQ:=hid (hb.trans (hbq.mono hb.size))
  clear hbq HRD hb HBE
  generalize wr.drewN q=W at HRQ HBQ ⊢
  by_cases h0:s.n=0
  ·have hta:=HTA.out
   have htj:joinI (parts fo)=T:=by
    cases f with
    | zero=>exact hta
    | succ f =>
     simp only[tabI] at hta
     rw[if_pos (by rw[← HSB.out];exact h0)] at hta
     exact hta
   have HJ:=hid (rseq_any B m c W.heap.size (parts fo) W HRQ.out.rdl hmc (by omega) (by omega) (by omega))
   rw[htj] at HJ
   clear hta htj HTA
   rw[h0]
   go_wp2_with fail
   refine HJ.out.mono ?_
   rintro e w5 ⟨A5,c5,rfl,ho5,hb5⟩
   have HO5:=hid ho5
   have HB5:=hid (HBQ.out.trans (hb5.mono HBQ.out.size))
   clear ho5 hb5 HJ
   go_wp2_with fail
   go_ret
   exact⟨A5,c5,rfl,HO5.out.low HBQ.out.size,HB5.out⟩
  ·have hbi:=bestI_cases (parts fo)
   rw[← HSB.out] at hbi
   have hg:Tab.Good (parts fo) s:=hbi.resolve_left fun hh=>h0 hh.1
   have hfu:f≠0:=fun hf=>h0 (by rw[HSB.out];exact best_zero (by omega))
   obtain⟨f,rfl⟩:∃ f',f=f'+1:=⟨f - 1,by omega⟩
   have hta:=HTA.out
   simp only[tabI] at hta
   rw[← HSB.out,if_neg h0] at hta
   obtain⟨f',hfo,hst⟩:=hg.step HIT.out.ok
   have hit':=HIT.out.step (by omega) hfo
   have hsl:=stepI_len hg
   have hg1:=hg.le
   have hg2:=hg.n
   have hg3:=hg.p
   have hmul:=Nat.mul_le_mul hg3 hg2
   have hple:=Nat.le_mul_of_pos_right s.p (show 0 < s.n by omega)
   have hnle:=Nat.le_mul_of_pos_left s.n (show 0 < s.p by omega)
   have hp2:s.p*2≤s.p*s.n:=Nat.mul_le_mul_left _ hg2
   have hx:stepI (parts fo) s=(parts fo).take s.at_++(⟨4,0,(s.n:Int)⟩::joinI (((parts fo).drop s.at_).take s.p))::(parts fo).drop (s.at_+s.p*s.n):=rfl
   rw[hst] at hta hx hsl
   obtain⟨sm,sa,sp,sn⟩:=s
   dsimp only at *
   obtain⟨E,hE⟩:∃ E,E=sa+sp*sn:=⟨_,rfl⟩
   rw[← hE] at hx hsl hg1
   have HE:Hid (E=sa+sp*sn):=hid hE
   have HIT':=hid hit'
   have HTA':=hid hta
   have HX:=hid hx
   have HSL:=hid hsl
   have hsml:=hit'.small
   have hmE:m≤96:=by omega
   have hsaE:sa+sp*2≤E:=by omega
   obtain⟨Qn,hQn⟩:∃ Qn,Qn=sn*sp:=⟨_,rfl⟩
   have hQE:E=sa+Qn:=by rw[hQn,Nat.mul_comm];exact hE
   have hQI:(sn:Int)*(sp:Int)=(Qn:Int):=by rw[hQn];push_cast;rfl
   have hsn96:sn≤96:=by omega
   obtain⟨ad,_,_,_,rfl,_⟩:=HRQ.out.rdl.at_ (show 0 < m by omega)
   have hne:((sn:Int) == 0)=false:=beq_eq_false_iff_ne.2 (by omega)
   have hcs:¬ c=sa:=by omega
   obtain⟨e2,he2⟩:∃ e2,e2=sa+sp:=⟨_,rfl⟩
   have hs1:(sa:Int)+(sp:Int)=(e2:Int):=by omega
   have hwsp:IntKind.i64.wrap (e2:Int)=(e2:Int):=IntWalk.i64_in _ (by omega)
   have hse:(sa:Int)≤(e2:Int):=by omega
   have hse':sa≤e2:=by omega
   have hec:(e2:Int)≤(c:Int):=by omega
   have hec':e2≤c:=by omega
   have hel:e2 - sa=sp:=by omega
   have hin:NdIn ⟨4,0,(sn:Int)⟩:=ndIn_mk (by omega) (by omega) (by omega)
   have hbl:=bl1 W (.cells #[.int .i64 4,.int .i64 0,.int .i64 (sn:Int)] 83)
   have ql:=OwnN.lit W W.heap.size #[.int .i64 4,.int .i64 0,.int .i64 (sn:Int)] [⟨4,0,(sn:Int)⟩] 1 rfl rfl (Nat.le_refl _) (by omega) (by intro x hx;simp at hx;subst hx;exact hin)
   have hW1:=HRQ.out.on hbl
   have hszd:szI (((parts fo).drop sa).take sp)≤1048576:=Nat.le_trans (szI_take _ _) (Nat.le_trans (szI_drop _ _) (by omega))
   have HSQ:=hid (rseq_any (some (ad.add sa)) sp (c - sa) _ (((parts fo).drop sa).take sp) _ ((hW1.rdl.back sa).front sp (by omega)) (by omega) hg3 (by omega) hszd)
   have hJl:=joinI_le (((parts fo).drop sa).take sp)
   have hJp:=joinI_pos (I:=((parts fo).drop sa).take sp) (fun x hx=>parts_ne fo x (List.mem_of_mem_drop (List.mem_of_mem_take hx)))
   generalize joinI (((parts fo).drop sa).take sp)=J at HSQ HX hJl hJp
   have hJ2:J.length≤1048577:=by omega
   have HIN:=hid hin
   have HBL:=hid hbl
   have HQL:=hid ql
   clear hx hst hta hfo hit' hbi hg hE hQn hW1 hin hszd hJl HSB HE HIT HTA ql hbl hmul hple hnle hp2 hsl he2
   go_wp2_with fail
   refine HSQ.out.mono ?_
   rintro e w5 ⟨A5,c5,rfl,ho5,hb5⟩
   have hb5W:=HBL.out.trans (hb5.mono HBL.out.size)
   have hqo:=HQL.out.own.below rfl hb5
   have hrv5:=ho5.rdn.rd
   have HJN:=hid ho5.bd
   have hs5:=hb5W.size
   obtain⟨k,hk⟩:∃ k,k=J.length:=⟨_,rfl⟩
   rw[← hk] at hJ2 hJp ⊢
   have HK:=hid hk
   have HB5:=hid hb5W
   clear HSQ HQL HBL hb5 hb5W ho5 hk hs1 hwsp hse hse' hec hec' hel
   go_upto_region 8 with (at_builtin;go_loud (refine wpList_appV elN rfl (.tmp 26) (.tmp 33) rfl rfl W.heap.size _ 1 1 _ rfl hqo A5 k c5 (ns J) _ rfl hrv5 (by rw[ns_length,HK.out]) (ns_one _) (by omega) (by unfold maxLen;omega) hs5 (1+k) rfl (ns (⟨4,0,(sn:Int)⟩::J)) rfl ?_;intro A7 c7 w7 hw7 hb7 _))
   have HB7:=hid (HB5.out.trans hb7)
   have HI7:Hid (RdN w7 w7.heap.size A7 (1+k) (⟨4,0,(sn:Int)⟩::J)):=hid ⟨by rw[List.length_cons,HK.out];omega,hw7.rd,fun y hy=>by
    rcases List.mem_cons.1 hy with rfl | hy
    ·exact HIN.out
    ·exact HJN.out y hy⟩
   have hc7:1+k≤c7:=hw7.cap
   have HR7:=hid (HRQ.out.on HB7.out)
   have HBQ7:=hid (HBQ.out.trans (HB7.out.mono HBQ.out.size))
   obtain⟨V,hV,hC⟩:=HR7.out.ex
   have HC:=hid hC
   have hVl:V.length=m:=by rw[hC.1,hml]
   clear hw7 hb7 hqo hrv5 hs5 hC HB5 HRQ HBQ HB7 HIN HJN
   have hbe:=bl1 w7 (.cells #[] 37)
   have how0:OwnV 37 1 (w7.alloc (.cells #[] 37)) w7.heap.size (some ⟨w7.heap.size,0,none⟩) 0 0 []:=ownV_lit w7 _ 1 w7.heap.size #[] 0 rfl (Nat.le_refl _) (by unfold maxLen;omega)
   have hV0:=(hV.below hbe).more hbe.size
   have hVt:RdV (w7.alloc (.cells #[] 37)) (w7.alloc (.cells #[] 37)).heap.size (some ad) (V.take sa):=hV0.front sa
   have hle0:w7.heap.size≤(w7.alloc (.cells #[] 37)).heap.size:=hbe.size
   have HBE:=hid hbe
   have hone1:∀ u∈V.take sa,u.oneCell'=true:=fun u hu=>HC.out.one u (List.mem_of_mem_take hu)
   have hone2:∀ u∈V.drop E,u.oneCell'=true:=fun u hu=>HC.out.one u (List.mem_of_mem_drop hu)
   have hVtl:(V.take sa).length=sa*1:=by rw[List.length_take];omega
   have hVdl:(V.drop E).length=(m - E)*1:=by rw[List.length_drop];omega
   have hsc:(sa:Int)≤(c:Int):=by omega
   have HV:=hid hV
   clear hbe hV hV0
   go_upto_region 9 with (first | (at_builtin;go_loud (refine wpList_appV elL rfl (.tmp 35) (.tmp 38) rfl rfl w7.heap.size _ 0 0 _ rfl how0 (some ad) sa c (V.take sa) _ rfl hVt hVtl hone1 (by omega) (by unfold maxLen;omega) hle0 sa (Nat.zero_add _) (V.take sa) (List.nil_append _) ?_;intro A8 c8 w8 hw8 hb8 _;have hbz:=bl1 w8 (.cells #[.slice A7 (1+k:Nat) c7] 37);have hown2:=hw8.below rfl hbz;have hrd2:=rdV_new w8 #[.slice A7 (1+k:Nat) c7] 37 [.slice A7 (1+k:Nat) c7] rfl;have hb82:=(HBE.out.trans hb8).trans (hbz.mono (HBE.out.trans hb8).size);have hle2:=hb82.size)) | (at_builtin;go_loud (refine wpList_appV elL rfl (.tmp 39) (.tmp 41) rfl rfl w7.heap.size _ sa c8 _ rfl hown2 _ 1 1 _ _ rfl hrd2 rfl (by intro u hu;simp at hu;subst hu;rfl) (by omega) (by unfold maxLen;omega) hle2 (sa+1) rfl _ rfl ?_;intro A9 c9 w9 hw9 hb9 _)))
   have hb79:=hb82.trans hb9
   have hV9:=(HV.out.below hb79).more hb79.size
   have hVd:RdV w9 w9.heap.size (if c=E then some ad else some (ad.add E)) (V.drop E):=by
    by_cases hcE:c=E
    ·have:V.drop E=[]:=List.drop_eq_nil_of_le (by omega)
     rw[this]
     exact RdV.nil
    ·rw[if_neg hcE]
     exact hV9.back E
   have hle9:=hb79.size
   have hsQ:(sa:Int)+(Qn:Int)=(E:Int):=by omega
   have hwQ:IntKind.i64.wrap (Qn:Int)=(Qn:Int):=IntWalk.i64_in _ (by omega)
   have hwE:IntKind.i64.wrap (E:Int)=(E:Int):=IntWalk.i64_in _ (by omega)
   have hEm:(E:Int)≤(m:Int):=by omega
   have hEm':E≤m:=by omega
   have HB79:=hid hb79
   have HLN:Hid (sa+1+(m - E) < m∧sa+1+(m - E)≤f+1):=hid ⟨by omega,by omega⟩
   have HML:=hid hml
   clear how0 hVt hVtl hone1 hle0 hw8 hb8 hown2 hrd2 hb82 hle2 hbz hb79 hV9 hb9 hQE
   go_wp2_with (at_builtin;go_loud (refine wpList_appV elL rfl (.tmp 43) (.tmp 50) rfl rfl w7.heap.size A9 (sa+1) c9 _ rfl hw9 (if c=E then some ad else some (ad.add E)) (m - E) (c - E) (V.drop E) _ rfl hVd hVdl hone2 (by omega) (by unfold maxLen;omega) hle9 (sa+1+(m - E)) rfl _ rfl ?_;intro A10 c10 w10 hw10 hb10 _))
   go_roundw
   case rel=>exact⟨sa+1+(m - E),f,c10,A10,f',rfl,hw10.cap,HIT'.out,⟨by rw[HSL.out,HML.out],_,hw10.rd,by
    have hb:=HB79.out.trans hb10
    rw[HX.out,List.append_assoc]
    have hs:CelI w7 [(⟨4,0,(sn:Int)⟩::J)] [.slice A7 (1+k:Nat) c7]:=by
     have e:(⟨4,0,(sn:Int)⟩::J:List Nd).length=1+k:=by rw[List.length_cons,HK.out];omega
     have:=CelI.single (w:=w7) (x:=⟨4,0,(sn:Int)⟩::J) (A:=A7) (c:=c7) (by rw[e];omega) (by rw[e];exact hc7) (by rw[e];exact HI7.out)
     rw[e] at this
     exact this
    exact((HC.out.take sa).append (hs.append (HC.out.drop E))).on hb⟩,HTA'.out,HLN.out.2,HBQ7.out.trans ((HB79.out.trans hb10).mono HBQ7.out.size)⟩
   case measure =>
    have:=HLN.out.1
    simp[lenOf]
    omega
theorem loadVar_run6 {w:World} {g:Nat} {v0 v1 v2 v3 v4 v5:Value} (h0:w.cell? ⟨g,0,none⟩=some v0) (h1:w.cell? ⟨g,1,none⟩=some v1) (h2:w.cell? ⟨g,2,none⟩=some v2) (h3:w.cell? ⟨g,3,none⟩=some v3) (h4:w.cell? ⟨g,4,none⟩=some v4) (h5:w.cell? ⟨g,5,none⟩=some v5):(loadVar 45 ⟨g,0,none⟩).run Tryz.prog w=.ok (.agg #[v0,v1,v2,v3,v4,v5]) w:=by
 have e:(isAgg 45).run Tryz.prog w=.ok true w:=by go_simp
 have e2:(sizeOf 45).run Tryz.prog w=.ok 6 w:=by go_simp
 unfold loadVar
 rw[Sem.run_bind,e,Result.andThen_ok]
 simp only[if_true]
 rw[Sem.run_bind,e2,Result.andThen_ok,Sem.run_bind]
 have:=run_loadCells_list (P:=Tryz.prog) (w:=w) ⟨g,0,none⟩ [v0,v1,v2,v3,v4,v5] (fun j v hj=>by
  match j with
  | 0=>simp at hj;subst hj;simpa [Addr.add] using h0
  | 1=>simp at hj;subst hj;simpa [Addr.add] using h1
  | 2=>simp at hj;subst hj;simpa [Addr.add] using h2
  | 3=>simp at hj;subst hj;simpa [Addr.add] using h3
  | 4=>simp at hj;subst hj;simpa [Addr.add] using h4
  | 5=>simp at hj;subst hj;simpa [Addr.add] using h5
  | j+6=>simp at hj)
 simp only[List.length_cons,List.length_nil] at this
 rw[this,Result.andThen_ok]
 rfl
theorem results_tct {fn:Func} {p t u:Tmp} {ty:TypeId} (h:fn.results=#[.tmp t,.cell p ty,.tmp u]) (tmps:Array Value) (P:Program) (w:World) :
  (results fn tmps).run P w =
   ((asAddr (tmps.getD p undef)).run P w).andThen fun a w₁=>((loadVar ty a).run P w₁).andThen fun v w₂=>.ok (.tuple #[tmps.getD t undef,v,tmps.getD u undef]) w₂:=by
 simp only[results,h]
 simp[Sem.run_bind,Result.andThen]
theorem results_run6 {fn:Func} {p t u:Tmp} (h:fn.results=#[.tmp t,.cell p 45,.tmp u]) {tmps:Array Value} {w:World} {g:Nat} {v0 v1 v2 v3 v4 v5:Value} (hp:tmps.getD p undef=.pointer (some ⟨g,0,none⟩)) (h0:w.cell? ⟨g,0,none⟩=some v0) (h1:w.cell? ⟨g,1,none⟩=some v1) (h2:w.cell? ⟨g,2,none⟩=some v2) (h3:w.cell? ⟨g,3,none⟩=some v3) (h4:w.cell? ⟨g,4,none⟩=some v4) (h5:w.cell? ⟨g,5,none⟩=some v5) :
  (results fn tmps).run Tryz.prog w=.ok (.tuple #[tmps.getD t undef,.agg #[v0,v1,v2,v3,v4,v5],tmps.getD u undef]) w:=by
 have e:(asAddr (.pointer (some ⟨g,0,none⟩))).run Tryz.prog w=.ok ⟨g,0,none⟩ w:=rfl
 rw[results_tct h,hp,e,Result.andThen_ok,loadVar_run6 h0 h1 h2 h3 h4 h5,Result.andThen_ok]
def set6 (w:World) (g:Nat) (v0 v1 v2 v3 v4 v5:Value):World:=(((((w.setCell ⟨g,0,none⟩ v0).setCell ⟨g,1,none⟩ v1).setCell ⟨g,2,none⟩ v2).setCell ⟨g,3,none⟩ v3).setCell ⟨g,4,none⟩ v4).setCell ⟨g,5,none⟩ v5
theorem set6_cells {w:World} {g:Nat} {f:Nat→Value} (h:Vec w g 6 f) (v0 v1 v2 v3 v4 v5:Value):(set6 w g v0 v1 v2 v3 v4 v5).cell? ⟨g,0,none⟩=some v0∧(set6 w g v0 v1 v2 v3 v4 v5).cell? ⟨g,1,none⟩=some v1∧(set6 w g v0 v1 v2 v3 v4 v5).cell? ⟨g,2,none⟩=some v2∧(set6 w g v0 v1 v2 v3 v4 v5).cell? ⟨g,3,none⟩=some v3∧(set6 w g v0 v1 v2 v3 v4 v5).cell? ⟨g,4,none⟩=some v4∧(set6 w g v0 v1 v2 v3 v4 v5).cell? ⟨g,5,none⟩=some v5:=by
 have h3:=(((((h.set 0 v0).set 1 v1).set 2 v2).set 3 v3).set 4 v4).set 5 v5
 refine⟨(h3.cell 0 (by omega)).trans ?_,(h3.cell 1 (by omega)).trans ?_,(h3.cell 2 (by omega)).trans ?_,(h3.cell 3 (by omega)).trans ?_,(h3.cell 4 (by omega)).trans ?_,(h3.cell 5 (by omega)).trans ?_⟩ <;> rfl
theorem set6_bel {B:Nat} {w:World} {g:Nat} (hg:B≤g) (v0 v1 v2 v3 v4 v5:Value):Below B w (set6 w g v0 v1 v2 v3 v4 v5) :=
 ((((((Below.refl _ _).setCell (p:=⟨g,0,none⟩) hg v0).setCell (p:=⟨g,1,none⟩) hg v1).setCell (p:=⟨g,2,none⟩) hg v2).setCell (p:=⟨g,3,none⟩) hg v3).setCell (p:=⟨g,4,none⟩) hg v4).setCell (p:=⟨g,5,none⟩) hg v5
structure Rep where
 moves:Nat
 runs:Nat
 was:Nat
 nodes:Nat
 wasn:Nat
 kept:Bool
def Rep.v (r:Rep):Value:=.agg #[.int .i64 r.moves,.int .i64 r.runs,.int .i64 r.was,.int .i64 r.nodes,.int .i64 r.wasn,.bool r.kept]
def TblR (l:List Nd) (r:Rep) (z:Int) (w:World) (e:Ending) (w':World):Prop:=∃ A c,e=.returned (.tuple #[.slice A l.length c,r.v,.int .i64 z])∧OwnN w' w.heap.size A l.length c l∧Below w.heap.size w w'
def tblF (P:List PtV) (C:List ChV) (t:List Nd) (X:List Rn) (z:Int):List Nd×Rep×Int :=
 if ¬ z=0 then ([],⟨0,0,0,0,0,false⟩,z)
 else if ¬ holdsF (wordsL X) P C=0 then ([],⟨0,0,0,0,0,false⟩,holdsF (wordsL X) P C)
 else if t.length < (tabI (redF P C X.length X).1.length (itemsI (redF P C X.length X).1)).length then (t,⟨0,X.length,X.length,t.length,t.length,true⟩,0)
 else (tabI (redF P C X.length X).1.length (itemsI (redF P C X.length X).1),⟨(redF P C X.length X).2,(redF P C X.length X).1.length,X.length,(tabI (redF P C X.length X).1.length (itemsI (redF P C X.length X).1)).length,t.length,false⟩,0)
theorem own_none (w:World) (B:Nat):OwnN w B none 0 0 []:=⟨rfl,OwnV.nil _ _ _ _,by simp⟩
theorem set6_oth {w:World} {g k:Nat} (hk:k≠g) (v0 v1 v2 v3 v4 v5:Value):(set6 w g v0 v1 v2 v3 v4 v5).heap[k]? = w.heap[k]?:=by
 unfold set6
 rw[Below.heap_setCell _ _ _ k hk,Below.heap_setCell _ _ _ k hk,Below.heap_setCell _ _ _ k hk,Below.heap_setCell _ _ _ k hk,Below.heap_setCell _ _ _ k hk,Below.heap_setCell _ _ _ k hk]
theorem set6_own {w:World} {g B n c:Nat} {A:Option Addr} {l:List Nd} (h:OwnN w B A n c l) (hg:g < B) (v0 v1 v2 v3 v4 v5:Value):OwnN (set6 w g v0 v1 v2 v3 v4 v5) B A n c l :=
 h.keep fun b hb _=>set6_oth (by omega) _ _ _ _ _ _
set_option maxRecDepth 100000 in
set_option maxHeartbeats 8000000 in
theorem rtbl_any (A1 A2 A3 A:Option Addr) (n1 n2 n3 n c1 c2 c3 c:Nat) (P:List PtV) (C:List ChV) (t:List Nd) (X:List Rn) (z:Int) (w:World) (hCf:CfW w w.heap.size A1 A2 n1 n2 P C) (hT:RdN w w.heap.size A n t)
  (q1:n1≤1024) (q2:n2≤1048576) (hc:n≤c) (hn:n≤1048576) (hz:∀ x∈P,In64 x.per) (hF:z=0→Frm X X.length)
  (hO:∀ V,Below w.heap.size w V→Calls Tryz.prog 17 #[.slice A n c] V (OfG z X V)) :
  Calls Tryz.prog 40 #[.agg #[.slice A1 n1 c1,.slice A2 n2 c2,.slice A3 n3 c3],.slice A n c] w (TblR (tblF P C t X z).1 (tblF P C t X z).2.1 (tblF P C t X z).2.2 w):=by
 have hb0:=bl1 w (.cells #[.slice A1 n1 c1,.slice A2 n2 c2,.slice A3 n3 c3] 31)
 have hb1:=bl1 (w.alloc (.cells #[.slice A1 n1 c1,.slice A2 n2 c2,.slice A3 n3 c3] 31)) (.cells #[.int .i64 0,.int .i64 0,.int .i64 0,.int .i64 0,.int .i64 0,.bool false] 45)
 have hbox:=(box_vec w (.slice A1 n1 c1) (.slice A2 n2 c2) (.slice A3 n3 c3) 31).on hb1
 have hrep:Vec ((w.alloc (.cells #[.slice A1 n1 c1,.slice A2 n2 c2,.slice A3 n3 c3] 31)).alloc (.cells #[.int .i64 0,.int .i64 0,.int .i64 0,.int .i64 0,.int .i64 0,.bool false] 45)) (w.alloc (.cells #[.slice A1 n1 c1,.slice A2 n2 c2,.slice A3 n3 c3] 31)).heap.size 6 (fun j=>if j=5 then .bool false else .int .i64 0) :=
  Vec.lit _ _ _ 6 _ fun j hj=>by rcases(by omega:j=0∨j=1∨j=2∨j=3∨j=4∨j=5) with rfl | rfl | rfl | rfl | rfl | rfl <;> rfl
 have hg1:w.heap.size≤(w.alloc (.cells #[.slice A1 n1 c1,.slice A2 n2 c2,.slice A3 n3 c3] 31)).heap.size:=hb0.size
 have hsz:(w.alloc (.cells #[.slice A1 n1 c1,.slice A2 n2 c2,.slice A3 n3 c3] 31)).heap.size=w.heap.size+1:=by simp
 have hb2:=hb0.trans (hb1.mono hb0.size)
 have hl:=hT.len
 have HCF:=hid (hCf.on hb2)
 have HT:=hid (hT.on hb2)
 have HB0:=hid hb2
 have HZ:=hid hz
 have HF:=hid hF
 have HO:=hid hO
 have HBD:=hid hT.bd
 obtain⟨R,hR⟩:∃ R,R=tblF P C t X z:=⟨_,rfl⟩
 rw[← hR]
 have HR:=hid hR
 rw[hsz] at hrep hg1
 clear hCf hT hb0 hb1 hb2 hz hF hO hR hsz
 go_enter Tryz.func40,Tryz.ntmps40
 go_upto_region 1 with fail
 generalize (w.alloc (.cells #[.slice A1 n1 c1,.slice A2 n2 c2,.slice A3 n3 c3] 31)).alloc (.cells #[.int .i64 0,.int .i64 0,.int .i64 0,.int .i64 0,.int .i64 0,.bool false] 45)=W at hbox hrep HCF HT HB0 ⊢
 obtain⟨gc,hgc⟩:∃ gc,gc=w.heap.size:=⟨_,rfl⟩
 obtain⟨gr,hgr⟩:∃ gr,gr=w.heap.size+1:=⟨_,rfl⟩
 rw[← hgr]
 rw[← hgc] at hbox hg1 ⊢
 rw[← hgr] at hrep
 have hg2:gc≤gr:=by omega
 have HG:=hid hg2
 have hg1:gc≤gr:=hg2
 have HRP:=hid fun V (hv:Below W.heap.size W V)=>hrep.on hv
 have HBX:=hid fun V (hv:Below W.heap.size W V)=>(hbox.on hv).three
 have HTT:=hid fun V (hv:Below W.heap.size W V)=>HT.out.on hv
 have HCC:=hid fun V (hv:Below W.heap.size W V)=>HCF.out.on hv
 have HGC:=hid hgc
 have HGL:=hid hrep.lt
 clear hbox hrep hgr hgc hg2
 go_wp2_with fail
 refine(HO.out W HB0.out).mono ?_
 rintro e w1 ⟨A5,m5,c5,rfl,hc5,hr5,hb5⟩
 have HK1:=hid hb5
 have HR5:=hid fun h V (hv:Below w1.heap.size w1 V)=>(hr5 h).on hv
 clear hr5 hb5
 rcases Decidable.em (z=0) with rfl | hz0
 ·have hf:=HF.out rfl
  have hle:=hf.le
  have htk:=hf.tk
  have hpos:=hf.pos
  have hr1:=HR5.out rfl w1 (Below.refl _ _)
  have hm:=hr1.len
  subst hm
  have HRX:=hid fun V (hv:Below w1.heap.size w1 V)=>HR5.out rfl V hv
  have HFX:=hid hf
  have HHO:=hid (holdsx_any A1 A2 A3 A5 n1 n2 n3 X.length c1 c2 c3 c5 P C X w1 (HCC.out w1 HK1.out).p (HCC.out w1 HK1.out).c hr1 (by omega) q2 hc5 (by omega) (by omega) HZ.out)
  obtain⟨m0,m1,m2⟩:=HBX.out w1 HK1.out
  obtain⟨hd,hhd⟩:∃ hd,hd=holdsF (wordsL X) P C:=⟨_,rfl⟩
  rw[← hhd] at HHO
  have HHD:=hid hhd
  clear hf hr1 hhd HR5
  go_wp2_with fail
  refine HHO.out.mono ?_
  rintro e w2 ⟨rfl,hb2⟩
  have HQ2:=hid hb2
  have HK2:=hid (HK1.out.trans (hb2.mono HK1.out.size))
  clear hb2 m0 m1 m2
  rcases Decidable.em (hd=0) with rfl | hd0
  ·have HRD:=hid (rreds_any A1 A2 A3 A5 n1 n2 n3 X.length c1 c2 c3 c5 P C X w2 (HCC.out w2 HK2.out) (HRX.out w2 HQ2.out) q1 q2 hc5 HZ.out HFX.out)
   have hrd:=redF_redd (P:=P) (C:=C) X.length X HFX.out (Nat.le_refl _)
   have hf6:=hrd.frm
   have hle6:=hf6.le
   obtain⟨Y,hY⟩:∃ Y,Y=redF P C X.length X:=⟨_,rfl⟩
   have hR2:R=if t.length < (tabI Y.1.length (itemsI Y.1)).length then (t,⟨0,X.length,X.length,t.length,t.length,true⟩,0) else (tabI Y.1.length (itemsI Y.1),⟨Y.2,Y.1.length,X.length,(tabI Y.1.length (itemsI Y.1)).length,t.length,false⟩,0):=by
    rw[HR.out]
    unfold tblF
    rw[if_neg (by simp),if_neg (by rw[← HHD.out];simp),hY]
   rw[← hY] at HRD hf6 hle6
   have HF6:=hid hf6
   have HR2:=hid hR2
   obtain⟨m0,m1,m2⟩:=HBX.out w2 HK2.out
   clear hrd hf6 hY hR2
   go_wp2_with fail
   refine HRD.out.mono ?_
   rintro e w3 ⟨A6,c6,rfl,hr6,hc6,hb6⟩
   have HK3:=hid (HK2.out.trans (hb6.mono HK2.out.size))
   have HTB:=hid (rtable_any A6 Y.1.length c6 Y.1 w3 hr6 hc6 HF6.out)
   clear hb6 hr6 m0 m1 m2 HRD
   obtain⟨O,hO⟩:∃ O,O=tabI Y.1.length (itemsI Y.1):=⟨_,rfl⟩
   rw[← hO] at HTB HR2
   clear hO
   go_wp2_with fail
   refine HTB.out.mono ?_
   rintro e w4 ⟨A7,c7,rfl,hr7,hb7⟩
   have HK4:=hid (HK3.out.trans (hb7.mono HK3.out.size))
   have HO7:=hid hr7
   clear hb7 hr7 HTB
   by_cases hlt:n < O.length
   ·have hdl:decide (n < O.length)=true:=decide_eq_true hlt
    have hR3:R=(t,⟨0,X.length,X.length,n,n,true⟩,0):=by rw[HR2.out,if_pos (by rw[hl];exact hlt),hl]
    have HR3:=hid hR3
    have hbe:=bl1 w4 (.cells #[] 83)
    have hown0:OwnV 83 3 (w4.alloc (.cells #[] 83)) w4.heap.size (some ⟨w4.heap.size,0,none⟩) 0 0 []:=ownV_lit w4 _ 3 w4.heap.size #[] 0 rfl (Nat.le_refl _) (by unfold maxLen;omega)
    have hrd:=((HTT.out w4 HK4.out).on hbe).rd
    have hle:w4.heap.size≤(w4.alloc (.cells #[] 83)).heap.size:=hbe.size
    have HBE:=hid hbe
    clear hbe hR3
    go_wp2_with (at_builtin;go_loud (refine wpList_appV elN rfl (.tmp 42) (.tmp 43) rfl rfl w4.heap.size (some ⟨w4.heap.size,0,none⟩) 0 0 [] rfl hown0 A n c (ns t) _ rfl hrd (by rw[ns_length,hl]) (ns_one _) (by omega) (by unfold maxLen;omega) hle n (Nat.zero_add _) (ns t) (List.nil_append _) ?_;intro A9 c9 w9 hw9 hb9 _;have hv:=HRP.out w9 (HK4.out.trans ((HBE.out.trans hb9).mono HK4.out.size));have r0:w9.cell? ⟨gr,0,none⟩=some (.int .i64 0):=hv.cell 0 (by omega);have r1:w9.cell? ⟨gr,1,none⟩=some (.int .i64 0):=hv.cell 1 (by omega);have r2:w9.cell? ⟨gr,2,none⟩=some (.int .i64 0):=hv.cell 2 (by omega);have r3:w9.cell? ⟨gr,3,none⟩=some (.int .i64 0):=hv.cell 3 (by omega);have r4:w9.cell? ⟨gr,4,none⟩=some (.int .i64 0):=hv.cell 4 (by omega);have r5:w9.cell? ⟨gr,5,none⟩=some (.bool false):=hv.cell 5 (by omega);have s0:=hv.thaw 0;have s1:=hv.thaw 1;have s2:=hv.thaw 2;have s3:=hv.thaw 3;have s4:=hv.thaw 4;have s5:=hv.thaw 5;obtain⟨d0,d1,d2,d3,d4,d5⟩:=set6_cells hv (.int .i64 0) (.int .i64 X.length) (.int .i64 X.length) (.int .i64 n) (.int .i64 n) (.bool true);have D0:=hid d0;have D1:=hid d1;have D2:=hid d2;have D3:=hid d3;have D4:=hid d4;have D5:=hid d5;have HE:=hid (set6_bel (w:=w9) hg1 (.int .i64 0) (.int .i64 X.length) (.int .i64 X.length) (.int .i64 n) (.int .i64 n) (.bool true));have HW9:=hid hw9;have HB9:=hid hb9;clear d0 d1 d2 d3 d4 d5 hv hw9 hb9))
    rw[HR3.out]
    refine bodyPost_ret (results_run6 rfl rfl D0.out D1.out D2.out D3.out D4.out D5.out) rfl ⟨A9,c9,by rw[hl];rfl,?_,?_⟩
    ·rw[hl]
     have ho:OwnN w9 w4.heap.size A9 n c9 t:=⟨hl,HW9.out,HBD.out⟩
     exact(set6_own ho (Nat.lt_of_lt_of_le HGL.out HK4.out.size) _ _ _ _ _ _).low (by have h1:=HB0.out.size;have h2:=HK4.out.size;omega)
    ·have h2:=HE.out
     rw[HGC.out] at h2
     exact(HB0.out.trans ((HK4.out.trans ((HBE.out.trans HB9.out).mono HK4.out.size)).mono HB0.out.size)).trans h2
   ·have hdl:decide (n < O.length)=false:=decide_eq_false hlt
    have hR3:R=(O,⟨Y.2,Y.1.length,X.length,O.length,n,false⟩,0):=by rw[HR2.out,if_neg (by rw[hl];exact hlt),hl]
    have HR3:=hid hR3
    clear hR3
    have hv:=HRP.out w4 HK4.out
    have r0:w4.cell? ⟨gr,0,none⟩=some (.int .i64 0):=hv.cell 0 (by omega)
    have r1:w4.cell? ⟨gr,1,none⟩=some (.int .i64 0):=hv.cell 1 (by omega)
    have r2:w4.cell? ⟨gr,2,none⟩=some (.int .i64 0):=hv.cell 2 (by omega)
    have r3:w4.cell? ⟨gr,3,none⟩=some (.int .i64 0):=hv.cell 3 (by omega)
    have r4:w4.cell? ⟨gr,4,none⟩=some (.int .i64 0):=hv.cell 4 (by omega)
    have r5:w4.cell? ⟨gr,5,none⟩=some (.bool false):=hv.cell 5 (by omega)
    have s0:=hv.thaw 0
    have s1:=hv.thaw 1
    have s2:=hv.thaw 2
    have s3:=hv.thaw 3
    have s4:=hv.thaw 4
    have s5:=hv.thaw 5
    obtain⟨d0,d1,d2,d3,d4,d5⟩:=set6_cells hv (.int .i64 Y.2) (.int .i64 Y.1.length) (.int .i64 X.length) (.int .i64 O.length) (.int .i64 n) (.bool false)
    have D0:=hid d0
    have D1:=hid d1
    have D2:=hid d2
    have D3:=hid d3
    have D4:=hid d4
    have D5:=hid d5
    have HE:=hid (set6_bel (w:=w4) hg1 (.int .i64 Y.2) (.int .i64 Y.1.length) (.int .i64 X.length) (.int .i64 O.length) (.int .i64 n) (.bool false))
    clear d0 d1 d2 d3 d4 d5 hv
    go_wp2_with fail
    rw[HR3.out]
    refine bodyPost_ret (results_run6 rfl rfl D0.out D1.out D2.out D3.out D4.out D5.out) rfl ⟨A7,c7,rfl,?_,?_⟩
    ·exact(set6_own HO7.out (Nat.lt_of_lt_of_le HGL.out HK3.out.size) _ _ _ _ _ _).low (by have h1:=HB0.out.size;have h2:=HK3.out.size;omega)
    ·have h2:=HE.out
     rw[HGC.out] at h2
     exact(HB0.out.trans (HK4.out.mono HB0.out.size)).trans h2
  ·have hR2:R=([],⟨0,0,0,0,0,false⟩,hd):=by
    rw[HR.out]
    unfold tblF
    rw[if_neg (by simp),if_pos (by rw[← HHD.out];exact hd0),HHD.out]
   have HR2:=hid hR2
   clear hR2
   have hz1:decide (hd=0)=false:=decide_eq_false hd0
   have hz3:(hd != 0)=true:=by simp[hd0]
   have hv:=HRP.out w2 HK2.out
   have r0:w2.cell? ⟨gr,0,none⟩=some (.int .i64 0):=hv.cell 0 (by omega)
   have r1:w2.cell? ⟨gr,1,none⟩=some (.int .i64 0):=hv.cell 1 (by omega)
   have r2:w2.cell? ⟨gr,2,none⟩=some (.int .i64 0):=hv.cell 2 (by omega)
   have r3:w2.cell? ⟨gr,3,none⟩=some (.int .i64 0):=hv.cell 3 (by omega)
   have r4:w2.cell? ⟨gr,4,none⟩=some (.int .i64 0):=hv.cell 4 (by omega)
   have r5:w2.cell? ⟨gr,5,none⟩=some (.bool false):=hv.cell 5 (by omega)
   have s0:=hv.thaw 0
   have s1:=hv.thaw 1
   have s2:=hv.thaw 2
   have s3:=hv.thaw 3
   have s4:=hv.thaw 4
   have s5:=hv.thaw 5
   obtain⟨d0,d1,d2,d3,d4,d5⟩:=set6_cells hv (.int .i64 0) (.int .i64 0) (.int .i64 0) (.int .i64 0) (.int .i64 0) (.bool false)
   have D0:=hid d0
   have D1:=hid d1
   have D2:=hid d2
   have D3:=hid d3
   have D4:=hid d4
   have D5:=hid d5
   have HE:=hid (set6_bel (w:=w2) hg1 (.int .i64 0) (.int .i64 0) (.int .i64 0) (.int .i64 0) (.int .i64 0) (.bool false))
   clear d0 d1 d2 d3 d4 d5 hv
   go_wp2_with fail
   rw[HR2.out]
   refine bodyPost_ret (results_run6 rfl rfl D0.out D1.out D2.out D3.out D4.out D5.out) rfl ⟨none,0,rfl,own_none _ _,?_⟩
   have h2:=HE.out
   rw[HGC.out] at h2
   exact(HB0.out.trans (HK2.out.mono HB0.out.size)).trans h2
 ·have hR2:R=([],⟨0,0,0,0,0,false⟩,z):=by
   rw[HR.out]
   unfold tblF
   rw[if_pos hz0]
  have HR2:=hid hR2
  clear hR2
  have hz1:decide (z=0)=false:=decide_eq_false hz0
  have hz3:(z != 0)=true:=by simp[hz0]
  have hv:=HRP.out w1 HK1.out
  have r0:w1.cell? ⟨gr,0,none⟩=some (.int .i64 0):=hv.cell 0 (by omega)
  have r1:w1.cell? ⟨gr,1,none⟩=some (.int .i64 0):=hv.cell 1 (by omega)
  have r2:w1.cell? ⟨gr,2,none⟩=some (.int .i64 0):=hv.cell 2 (by omega)
  have r3:w1.cell? ⟨gr,3,none⟩=some (.int .i64 0):=hv.cell 3 (by omega)
  have r4:w1.cell? ⟨gr,4,none⟩=some (.int .i64 0):=hv.cell 4 (by omega)
  have r5:w1.cell? ⟨gr,5,none⟩=some (.bool false):=hv.cell 5 (by omega)
  have s0:=hv.thaw 0
  have s1:=hv.thaw 1
  have s2:=hv.thaw 2
  have s3:=hv.thaw 3
  have s4:=hv.thaw 4
  have s5:=hv.thaw 5
  obtain⟨d0,d1,d2,d3,d4,d5⟩:=set6_cells hv (.int .i64 0) (.int .i64 0) (.int .i64 0) (.int .i64 0) (.int .i64 0) (.bool false)
  have D0:=hid d0
  have D1:=hid d1
  have D2:=hid d2
  have D3:=hid d3
  have D4:=hid d4
  have D5:=hid d5
  have HE:=hid (set6_bel (w:=w1) hg1 (.int .i64 0) (.int .i64 0) (.int .i64 0) (.int .i64 0) (.int .i64 0) (.bool false))
  clear d0 d1 d2 d3 d4 d5 hv
  go_wp2_with fail
  rw[HR2.out]
  refine bodyPost_ret (results_run6 rfl rfl D0.out D1.out D2.out D3.out D4.out D5.out) rfl ⟨none,0,rfl,own_none _ _,?_⟩
  have h2:=HE.out
  rw[HGC.out] at h2
  exact(HB0.out.trans (HK1.out.mono HB0.out.size)).trans h2
structure RedIn (w:World) (A1 A2 A:Option Addr) (n1 n2 n c1 c:Nat) (P:List PtV) (C:List ChV) (L:List Rn):Prop where
 cf:CfW w w.heap.size A1 A2 n1 n2 P C
 row:RdR w w.heap.size A n L
 q1:n1≤6
 n1c:n1≤c1
 q2:n2≤1048576
 cap:n≤c
 per:∀ x∈P,In64 x.per
 frm:Frm L n
def TblW (l:List Nd) (r:Rep) (z:Int) (w:World) (e:Ending) (w':World):Prop:=∃ A c,e=.returned (.tuple #[.slice A l.length c,r.v,.int .i64 z])∧RdN w' w'.heap.size A l.length l∧l.length≤c∧Below w.heap.size w w'
structure ReduceW (fo:Nat):Prop where
 merge:∀(A1 A2 A3 A:Option Addr) (n1 n2 n3 n c1 c2 c3 c:Nat) (P:List PtV) (C:List ChV) (L:List Rn) (w:World),RedIn w A1 A2 A n1 n2 n c1 c P C L →
  Calls Tryz.prog 35 #[.agg #[.slice A1 n1 c1,.slice A2 n2 c2,.slice A3 n3 c3],.slice A n c] w (RowTb (tidy L) (mergeB L) w)
 draw:∀(A1 A2 A3 A:Option Addr) (n1 n2 n3 n c1 c2 c3 c:Nat) (P:List PtV) (C:List ChV) (L:List Rn) (w:World),RedIn w A1 A2 A n1 n2 n c1 c P C L →
  Calls Tryz.prog 26 #[.agg #[.slice A1 n1 c1,.slice A2 n2 c2,.slice A3 n3 c3],.slice A n c] w (RowTb (drwR P C L) (drwB P C L) w)
 stuck:∀(A1 A2 A3 A:Option Addr) (n1 n2 n3 n c1 c2 c3 c:Nat) (P:List PtV) (C:List ChV) (L:List Rn) (w:World),RedIn w A1 A2 A n1 n2 n c1 c P C L →
  Calls Tryz.prog 27 #[.agg #[.slice A1 n1 c1,.slice A2 n2 c2,.slice A3 n3 c3],.slice A n c] w (Ans (.bool (!(drwB P C L))) w)
 valid:∀(A1 A2 A3 A B:Option Addr) (n1 n2 n3 n m c1 c2 c3 c d:Nat) (P:List PtV) (C:List ChV) (L X:List Rn) (w:World),RedIn w A1 A2 A n1 n2 n c1 c P C L→RdR w w.heap.size B m X→m≤d→Frm X m →
  Calls Tryz.prog 29 #[.agg #[.slice A1 n1 c1,.slice A2 n2 c2,.slice A3 n3 c3],.slice A n c,.slice B m d] w (Ans (.bool (validF P C L X)) w)
 runs:∀(A1 A2 A3 A:Option Addr) (n1 n2 n3 n c1 c2 c3 c:Nat) (P:List PtV) (C:List ChV) (L:List Rn) (w:World),RedIn w A1 A2 A n1 n2 n c1 c P C L →
  Calls Tryz.prog 33 #[.agg #[.slice A1 n1 c1,.slice A2 n2 c2,.slice A3 n3 c3],.slice A n c] w (RowNn (redF P C n L).1 (redF P C n L).2 w)
 table:∀(A1 A2 A3 A:Option Addr) (n1 n2 n3 n c1 c2 c3 c:Nat) (P:List PtV) (C:List ChV) (t:List Nd) (X:List Rn) (z:Int) (w:World),CfW w w.heap.size A1 A2 n1 n2 P C→RdN w w.heap.size A n t →
  n1≤6→n1≤c1→n2≤1048576→n≤c→n≤1048576→(∀ x∈P,In64 x.per)→(z=0→Frm X X.length)→(∀ V,Below w.heap.size w V→Calls Tryz.prog fo #[.slice A n c] V (OfG z X V)) →
  Calls Tryz.prog 16 #[.agg #[.slice A1 n1 c1,.slice A2 n2 c2,.slice A3 n3 c3],.slice A n c] w (TblW (tblF P C t X z).1 (tblF P C t X z).2.1 (tblF P C t X z).2.2 w)
 known:∀ w:World,Calls Tryz.prog 15 #[] w (Ans (.bool true) w)
section
variable {w V:World} {A1 A2 A:Option Addr} {n1 n2 n c1 c:Nat} {P:List PtV} {C:List ChV} {L:List Rn}
theorem RedIn.on (h:RedIn w A1 A2 A n1 n2 n c1 c P C L) (hb:Below w.heap.size w V):RedIn V A1 A2 A n1 n2 n c1 c P C L:=⟨h.cf.on hb,h.row.on hb,h.q1,h.n1c,h.q2,h.cap,h.per,h.frm⟩
theorem RedIn.ps (h:RedIn w A1 A2 A n1 n2 n c1 c P C L):∀ r∈L,-1≤r.p∧r.p≤1024:=fun r hr=>by have:=h.frm.all r hr;omega
theorem RedIn.rmerge (h:RedIn w A1 A2 A n1 n2 n c1 c P C L):Calls Tryz.prog 36 #[.slice A n c] w (RowTb (tidy L) (mergeB L) w) :=
 rmerge_any A n c L w h.row h.cap (by have:=h.frm.le;omega) (by have:=h.frm.tk;omega)
theorem RedIn.rdraw (h:RedIn w A1 A2 A n1 n2 n c1 c P C L) (A3:Option Addr) (n3 c2 c3:Nat):Calls Tryz.prog 37 #[.agg #[.slice A1 n1 c1,.slice A2 n2 c2,.slice A3 n3 c3],.slice A n c] w (RowTb (drwR P C L) (drwB P C L) w) :=
 rdraw_any A1 A2 A3 A n1 n2 n3 n c1 c2 c3 c P C L w h.cf h.row (Nat.le_trans h.q1 (by omega)) h.q2 h.cap (by have:=h.frm.le;omega) (by have:=h.frm.tk;omega) h.per h.ps
theorem RedIn.rstuck (h:RedIn w A1 A2 A n1 n2 n c1 c P C L) (A3:Option Addr) (n3 c2 c3:Nat):Calls Tryz.prog 25 #[.agg #[.slice A1 n1 c1,.slice A2 n2 c2,.slice A3 n3 c3],.slice A n c] w (Ans (.bool (!(drwB P C L))) w) :=
 rstuck_any A1 A2 A3 A n1 n2 n3 n c1 c2 c3 c P C L w h.cf h.row (Nat.le_trans h.q1 (by omega)) h.q2 h.cap (by have:=h.frm.le;omega) (by have:=h.frm.tk;omega) h.per h.ps
theorem RedIn.rvalid (h:RedIn w A1 A2 A n1 n2 n c1 c P C L) (A3 B:Option Addr) (n3 m c2 c3 d:Nat) (X:List Rn) (hX:RdR w w.heap.size B m X) (hd:m≤d) (hF:Frm X m):Calls Tryz.prog 38 #[.agg #[.slice A1 n1 c1,.slice A2 n2 c2,.slice A3 n3 c3],.slice A n c,.slice B m d] w (Ans (.bool (validF P C L X)) w) :=
 rvalid_any A1 A2 A3 A B n1 n2 n3 n m c1 c2 c3 c d P C L X w h.cf h.row hX (Nat.le_trans h.q1 (by omega)) h.q2 h.cap hd (by have:=h.frm.le;omega) (by have:=h.frm.tk;omega) h.per hF
theorem RedIn.rruns (h:RedIn w A1 A2 A n1 n2 n c1 c P C L) (A3:Option Addr) (n3 c2 c3:Nat):Calls Tryz.prog 34 #[.agg #[.slice A1 n1 c1,.slice A2 n2 c2,.slice A3 n3 c3],.slice A n c] w (RowNn (redF P C n L).1 (redF P C n L).2 w) :=
 rreds_any A1 A2 A3 A n1 n2 n3 n c1 c2 c3 c P C L w h.cf h.row (Nat.le_trans h.q1 (by omega)) h.q2 h.cap h.per h.frm
end
theorem mayZ_cast (D:Int→Int→Bool) (ps:List Int) (i j:Nat):mayZ D ps (i:Int) (j:Int)=mayP D ps i j:=by
 unfold mayZ
 rw[Int.toNat_natCast,Int.toNat_natCast]
 cases hm:mayP D ps i j with
 | false=>simp
 | true =>
  unfold mayP at hm
  split at hm
  ·rename_i x y hx hy
   simp only[Bool.and_eq_true,decide_eq_true_eq] at hm
   have h1:=hm.1
   have h2:=(List.getElem?_eq_some_iff.1 hy).1
   simp
   omega
  ·cases hm
def orM {α:Type} (a b:Option α):Option α:=match a with
 | some x=>some x
 | none=>b
def firstL (P:List PtV) (C:List ChV) (L:List Rn):List Mo→Option Mo
 | []=>none
 | x::l=>if fitZ P C L x.i x.j x.r=true then some x else firstL P C L l
def noDep:Int→Int→Bool:=depW 0 (fun _ _=>false)
def fstF (P:List PtV) (C:List ChV) (L:List Rn):Option Mo:=firstL P C L (allF noDep (L.map Rn.p))
section
variable {P:List PtV} {C:List ChV} {L:List Rn}
theorem fitZ_nat (i j:Nat) (r:Bool):fitZ P C L (i:Int) (j:Int) r=(mayP (depP P C) (L.map Rn.p) i j && okF P C (doZ L (i:Int) (j:Int) r)):=by
 unfold fitZ depP okF
 rw[mayZ_cast]
theorem firstL_app (a b:List Mo):firstL P C L (a++b)=orM (firstL P C L a) (firstL P C L b):=by
 induction a with
 | nil=>rfl
 | cons x a ih =>
  simp only[List.cons_append,firstL]
  split
  ·rfl
  ·exact ih
theorem drawL_app (a b:List Mo):drawL P C L (a++b)=orM (drawL P C L a) (drawL P C L b):=by
 induction a with
 | nil=>rfl
 | cons x a ih =>
  simp only[List.cons_append,drawL]
  split
  ·rfl
  ·exact ih
def doM (L:List Rn) (x:Mo):List Rn:=doZ L x.i x.j x.r
theorem map_app {a b:Option Mo} {c d:Option (List Rn)} (h1:a.map (doM L)=c) (h2:b.map (doM L)=d):(orM a b).map (doM L)=orM c d:=by
 subst h1
 cases a with
 | some x=>rfl
 | none=>exact h2
theorem noDep_le {p q:Int} (h:noDep p q=true):depP P C p q=true:=by
 unfold noDep depW at h
 simp[inP] at h
 subst h
 unfold depP depW
 simp
theorem two_first (i j:Nat):(firstL P C L (twoM noDep (L.map Rn.p) i j)).map (doM L)=drawL P C L (twoM (depP P C) (L.map Rn.p) i j):=by
 unfold twoM
 by_cases hm:mayP (depP P C) (L.map Rn.p) i j=true
 ·rw[if_pos hm,if_pos (mayP_mono (fun _ _ h=>noDep_le h) hm)]
  simp only[firstL,drawL,fitZ_nat,hm,Bool.true_and]
  split
  ·rfl
  ·split
   ·rfl
   ·rfl
 ·rw[if_neg hm]
  have hm':mayP (depP P C) (L.map Rn.p) i j=false:=by simpa using hm
  split
  ·simp only[firstL,drawL,fitZ_nat,hm',Bool.false_and]
   simp
  ·rfl
theorem allJ_first (i:Nat):∀ f j,(firstL P C L (allJ noDep (L.map Rn.p) i f j)).map (doM L)=drawL P C L (allJ (depP P C) (L.map Rn.p) i f j):=by
 intro f
 induction f with
 | zero=>intro j;rfl
 | succ f ih =>
  intro j
  unfold allJ
  rw[firstL_app,drawL_app]
  exact map_app (two_first i j) (ih (j+1))
theorem allI_first:∀ f i,(firstL P C L (allI noDep (L.map Rn.p) f i)).map (doM L)=drawL P C L (allI (depP P C) (L.map Rn.p) f i):=by
 intro f
 induction f with
 | zero=>intro i;rfl
 | succ f ih =>
  intro i
  unfold allI
  rw[firstL_app,drawL_app]
  exact map_app (allJ_first i _ _) (ih (i+1))
theorem fstF_draw:(fstF P C L).map (doM L)=drawF P C L:=allI_first _ _
theorem firstL_more {l:List Mo} {i:Nat} {m:Mo} (h:l[i]? = some m) (hp:firstL P C L (l.take i)=none):firstL P C L (l.take (i+1))=if fitZ P C L m.i m.j m.r=true then some m else none:=by
 obtain⟨hi,e⟩:=List.getElem?_eq_some_iff.1 h
 rw[List.take_succ_eq_append_getElem hi,e,firstL_app,hp]
 rfl
theorem firstL_first {x:Mo} {l:List Mo} {i:Nat} (h:firstL P C L (l.take i)=some x):firstL P C L l=some x:=by
 rw[← List.take_append_drop i l,firstL_app,h]
 rfl
theorem fstF_some {m:Mo} (h:fstF P C L=some m):drwR P C L=doZ L m.i m.j m.r∧drwB P C L=true:=by
 have e:=fstF_draw (P:=P) (C:=C) (L:=L)
 rw[h] at e
 unfold drwR drwB
 rw[← e]
 exact⟨rfl,rfl⟩
theorem fstF_none (h:fstF P C L=none):drwR P C L=L∧drwB P C L=false:=by
 have e:=fstF_draw (P:=P) (C:=C) (L:=L)
 rw[h] at e
 unfold drwR drwB
 rw[← e]
 exact⟨rfl,rfl⟩
end
def nxF (x:Int):List Int→Nat
 | []=>0
 | y::l=>if y=x then 0 else nxF x l+1
theorem nxF_le (x:Int) (l:List Int):nxF x l≤l.length:=by
 induction l with
 | nil=>exact Nat.le_refl _
 | cons y l ih =>
  unfold nxF
  split
  ·exact Nat.zero_le _
  ·rw[List.length_cons];omega
theorem nxF_ahead {x:Int}:∀ {l:List Int} {k:Nat},k < nxF x l→∃ y,l[k]? = some y∧y≠x:=by
 intro l
 induction l with
 | nil=>intro k h;exact absurd h (Nat.not_lt_zero _)
 | cons y l ih =>
  intro k h
  unfold nxF at h
  split at h
  ·exact absurd h (Nat.not_lt_zero _)
  ·rename_i hy
   cases k with
   | zero=>exact⟨y,rfl,hy⟩
   | succ k =>
    obtain⟨z,hz,hn⟩:=ih (k:=k) (by omega)
    exact⟨z,by rw[List.getElem?_cons_succ];exact hz,hn⟩
theorem nxF_at {x:Int}:∀ {l:List Int},nxF x l < l.length→l[nxF x l]? = some x:=by
 intro l
 induction l with
 | nil=>intro h;exact absurd h (Nat.not_lt_zero _)
 | cons y l ih =>
  intro h
  unfold nxF at h ⊢
  split at h
  ·rename_i hy
   rw[if_pos hy,hy]
   rfl
  ·rename_i hy
   rw[if_neg hy,List.getElem?_cons_succ]
   exact ih (by rw[List.length_cons] at h;omega)
theorem nxF_is {x:Int} {l:List Int} {k:Nat} (hk:l[k]? = some x) (hno:∀ j,j < k→l[j]?≠some x):nxF x l=k:=by
 rcases Nat.lt_trichotomy (nxF x l) k with h | h | h
 ·exfalso
  have hl:k < l.length:=(List.getElem?_eq_some_iff.1 hk).1
  exact hno _ h (nxF_at (by omega))
 ·exact h
 ·obtain⟨y,hy,hne⟩:=nxF_ahead h
  rw[hk] at hy
  injection hy with hy
  exact absurd hy.symm hne
def nextP (ps:List Int) (i:Nat) (x:Int):Nat:=i+1+nxF x (ps.drop (i+1))
theorem nextP_le {ps:List Int} {i:Nat} {x:Int} (h:i < ps.length):nextP ps i x≤ps.length:=by
 have h1:=nxF_le x (ps.drop (i+1))
 rw[List.length_drop] at h1
 unfold nextP
 omega
theorem nextP_gt (ps:List Int) (i:Nat) (x:Int):i < nextP ps i x:=by unfold nextP;omega
theorem nextP_at {ps:List Int} {i:Nat} {x:Int} (h:nextP ps i x < ps.length):ps[nextP ps i x]? = some x:=by
 unfold nextP at h ⊢
 have:=nxF_at (x:=x) (l:=ps.drop (i+1)) (by rw[List.length_drop];omega)
 rw[List.getElem?_drop] at this
 exact this
theorem nextP_ahead {ps:List Int} {i:Nat} {x:Int} {k:Nat} (h1:i < k) (h2:k < nextP ps i x):∃ y,ps[k]? = some y∧y≠x:=by
 unfold nextP at h2
 obtain⟨y,hy,hn⟩:=nxF_ahead (x:=x) (l:=ps.drop (i+1)) (k:=k - (i+1)) (by omega)
 rw[List.getElem?_drop] at hy
 exact⟨y,by rw[← hy];congr 1;omega,hn⟩
theorem nextP_is {ps:List Int} {i k:Nat} {x:Int} (h1:i < k) (hk:ps[k]? = some x) (hno:∀ j,i < j→j < k→ps[j]?≠some x):nextP ps i x=k:=by
 unfold nextP
 have:=nxF_is (x:=x) (l:=ps.drop (i+1)) (k:=k - (i+1)) (by rw[List.getElem?_drop,← hk];congr 1;omega) (fun j hj=>by
  rw[List.getElem?_drop]
  exact hno _ (by omega) (by omega))
 omega
theorem mem_between {ps:List Int} {i j:Nat} {y:Int}:y∈(ps.drop (i+1)).take (j - (i+1))↔∃ k,i < k∧k < j∧ps[k]? = some y:=by
 constructor
 ·intro h
  obtain⟨k,hk⟩:=List.mem_iff_getElem?.1 h
  rw[List.getElem?_take] at hk
  split at hk
  ·rename_i hkj
   rw[List.getElem?_drop] at hk
   exact⟨i+1+k,by omega,by omega,hk⟩
  ·cases hk
 ·rintro ⟨k,h1,h2,h3⟩
  refine List.mem_iff_getElem?.2 ⟨k - (i+1),?_⟩
  rw[List.getElem?_take,if_pos (by omega),List.getElem?_drop,← h3]
  congr 1
  omega
theorem mayP_next {D:Int→Int→Bool} {ps:List Int} {i j:Nat} {x:Int} (hx:ps[i]? = some x) (h:mayP D ps i j=true):nextP ps i x=j:=by
 unfold mayP at h
 rw[hx] at h
 split at h
 ·rename_i u v hu hv
  injection hu with hu
  subst hu
  simp only[Bool.and_eq_true,decide_eq_true_eq,Bool.not_eq_true'] at h
  refine nextP_is h.1 (by rw[hv,h.2.1]) fun k h1 h2 e=>?_
  have:=List.any_eq_false.1 h.2.2 x (mem_between.2 ⟨k,h1,h2,e⟩)
  exact this (by unfold wayP;rw[decide_eq_true rfl];rfl)
 ·cases h
theorem mayP_mates {D:Int→Int→Bool} {ps:List Int} {i j:Nat} {x:Int} (hx:ps[i]? = some x) (hij:i < j) (hj:j < ps.length) (hn:nextP ps i x=j) :
  mayP D ps i j=!((ps.drop (i+1)).take (j - (i+1))).any (wayP D x):=by
 have hy:=nextP_at (ps:=ps) (i:=i) (x:=x) (by omega)
 rw[hn] at hy
 unfold mayP
 rw[hx,hy]
 simp[hij]
theorem wayP_ne {D:Int→Int→Bool} {x y:Int} (h:y≠x):wayP D x y=(decide (x≠-1) && (decide (y≠-1) && D x y)):=by
 unfold wayP
 rw[decide_eq_false h,Bool.false_or]
def sayZ (n:Nat) (m:Nat→Nat→Bool) (a b:Int):Bool:=inP n a && (inP n b && m a.toNat b.toNat)
def tieZ (n:Nat) (m:Nat→Nat→Bool) (a b:Int):Bool:=sayZ n m a b || sayZ n m b a
theorem tieZ_way {n:Nat} {m:Nat→Nat→Bool} {x y:Int} (h:y≠x):tieZ n m x y=wayP (depW n m) x y:=by
 rw[wayP_ne h]
 unfold tieZ sayZ depW
 rw[decide_eq_false (show ¬ x=y from fun e=>h e.symm),Bool.false_or]
 cases h1:inP n x with
 | false=>cases inP n y <;> simp
 | true =>
  cases h2:inP n y with
  | false=>simp
  | true =>
   rw[inP_iff] at h1 h2
   rw[decide_eq_true (show x≠-1 by omega),decide_eq_true (show y≠-1 by omega)]
   simp
def plcZ (n:Nat) (I J:Int):Bool:=decide (0≤I) && (decide (I < J) && decide (J < (n:Int)))
set_option maxRecDepth 100000 in
set_option maxHeartbeats 1600000 in
theorem mplc_any (A:Option Addr) (n c:Nat) (I J:Int) (rt:Bool) (w:World) :
  Calls Tryz.prog 120 #[.slice A n c,.agg #[.int .i64 I,.int .i64 J,.bool rt]] w (Ans (.bool (plcZ n I J)) w):=by
 go_enter Tryz.func120,Tryz.ntmps120
 go_wp2
 all_goals
  go_ret
  refine Ans.mk (congrArg Value.bool ?_) (bl1 _ _)
  unfold plcZ
  rw[Bool.eq_iff_iff]
  simp only[decide_eq_true_eq,Bool.and_eq_true,Bool.false_eq_true,iff_false,false_iff] at *
  omega
set_option maxRecDepth 100000 in
set_option maxHeartbeats 1600000 in
theorem msays_any (A:Option Addr) (n c:Nat) (m:Nat→Nat→Bool) (a b:Int) (w:World) (h:RdM w w.heap.size A n (fun _=>n) m) (hn:n≤1024) :
  Calls Tryz.prog 162 #[.slice A n c,.int .i64 a,.int .i64 b] w (fun e w'=>e=.returned (.bool (sayZ n m a b))∧w'=w):=by
 have HV:Hid (∀ v,v=sayZ n m a b→Ending.returned (Value.bool v)=.returned (.bool (sayZ n m a b))):=hid fun v e=>by rw[e]
 have hd:sayZ n m a b=(inP n a && (inP n b && m a.toNat b.toNat)):=rfl
 generalize sayZ n m a b=v at HV hd ⊢
 by_cases ha0:0≤a
 ·obtain⟨x,rfl⟩:∃ x:Nat,a=x:=⟨a.toNat,by omega⟩
  by_cases hb0:0≤b
  ·obtain⟨y,rfl⟩:∃ y:Nat,b=y:=⟨b.toNat,by omega⟩
   have hb0d:decide ((y:Int)≥0)=true:=decide_eq_true hb0
   by_cases han:x < n
   ·have hani:(x:Int) < (n:Int):=by omega
    obtain⟨ad,R,c1,rfl,had,p0,_,hr0⟩:=h.at_ han
    by_cases hbn:y < n
    ·have hbni:(y:Int) < (n:Int):=by omega
     have e1:inP n (x:Int)=true:=inP_iff.2 ⟨by omega,by omega⟩
     have e2:inP n (y:Int)=true:=inP_iff.2 ⟨by omega,by omega⟩
     rw[e1,e2,Bool.true_and,Bool.true_and,show (x:Int).toNat=x from rfl,show (y:Int).toNat=y from rfl] at hd
     obtain⟨ar,rfl,_,u0⟩:=hr0.at_ hbn
     have HD:=hid hd
     clear hr0 h hd e1 e2
     go_enter Tryz.func162,Tryz.ntmps162
     generalize m x y=v0 at u0 HD
     go_wp2_with fail
     go_ret
     exact⟨HV.out _ HD.out.symm,rfl⟩
    ·have hbni:¬ (y:Int) < (n:Int):=by omega
     have e2:inP n (y:Int)=false:=by rw[Bool.eq_false_iff];intro e;rw[inP_iff] at e;omega
     rw[e2,Bool.false_and,Bool.and_false] at hd
     have HD:=hid hd
     clear hr0 h hd e2
     go_enter Tryz.func162,Tryz.ntmps162
     go_wp2_with fail
     go_ret
     exact⟨HV.out _ HD.out.symm,rfl⟩
   ·have hani:¬ (x:Int) < (n:Int):=by omega
    have e1:inP n (x:Int)=false:=by rw[Bool.eq_false_iff];intro e;rw[inP_iff] at e;omega
    rw[e1,Bool.false_and] at hd
    have HD:=hid hd
    clear h hd e1
    go_enter Tryz.func162,Tryz.ntmps162
    go_wp2_with fail
    go_ret
    exact⟨HV.out _ HD.out.symm,rfl⟩
  ·have hb0d:decide (0≤b)=false:=decide_eq_false hb0
   have e2:inP n b=false:=by rw[Bool.eq_false_iff];intro e;rw[inP_iff] at e;omega
   rw[e2,Bool.false_and,Bool.and_false] at hd
   have HD:=hid hd
   clear hd e2
   by_cases han:x < n
   ·have hani:(x:Int) < (n:Int):=by omega
    clear h
    go_enter Tryz.func162,Tryz.ntmps162
    go_wp2_with fail
    go_ret
    exact⟨HV.out _ HD.out.symm,rfl⟩
   ·have hani:¬ (x:Int) < (n:Int):=by omega
    clear h
    go_enter Tryz.func162,Tryz.ntmps162
    go_wp2_with fail
    go_ret
    exact⟨HV.out _ HD.out.symm,rfl⟩
 ·have ha0d:decide (0≤a)=false:=decide_eq_false ha0
  have e1:inP n a=false:=by rw[Bool.eq_false_iff];intro e;rw[inP_iff] at e;omega
  rw[e1,Bool.false_and] at hd
  have HD:=hid hd
  clear h hd e1
  go_enter Tryz.func162,Tryz.ntmps162
  go_wp2_with fail
  go_ret
  exact⟨HV.out _ HD.out.symm,rfl⟩
set_option maxRecDepth 100000 in
set_option maxHeartbeats 1600000 in
theorem mdep_any (A:Option Addr) (n c:Nat) (m:Nat→Nat→Bool) (a b:Int) (w:World) (h:RdM w w.heap.size A n (fun _=>n) m) (hn:n≤1024) :
  Calls Tryz.prog 152 #[.slice A n c,.int .i64 a,.int .i64 b] w (fun e w'=>e=.returned (.bool (tieZ n m a b))∧w'=w):=by
 have hd:tieZ n m a b=(sayZ n m a b || sayZ n m b a):=rfl
 have S1:=hid (msays_any A n c m a b w h hn)
 have S2:=hid (msays_any A n c m b a w h hn)
 generalize tieZ n m a b=v at hd ⊢
 generalize sayZ n m a b=s1 at hd S1
 generalize sayZ n m b a=s2 at hd S2
 have HD:=hid hd
 clear hd h
 go_enter Tryz.func152,Tryz.ntmps152
 cases s1 with
 | true =>
  go_wp2_with fail
  refine S1.out.mono ?_
  rintro e w1 ⟨rfl,rfl⟩
  go_wp2_with fail
  go_ret
  exact⟨by rw[HD.out];rfl,rfl⟩
 | false =>
  go_wp2_with fail
  refine S1.out.mono ?_
  rintro e w1 ⟨rfl,rfl⟩
  go_wp2_with fail
  refine S2.out.mono ?_
  rintro e w2 ⟨rfl,rfl⟩
  go_wp2_with fail
  go_ret
  exact⟨by rw[HD.out];rfl,rfl⟩
end Go.Proofs.YtfddpnhaejkacaaGreat
