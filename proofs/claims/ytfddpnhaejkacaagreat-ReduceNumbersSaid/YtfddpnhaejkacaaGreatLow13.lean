import Derived.Test.YtfddpnhaejkacaaGreatLow12
import Derived.BigQuiet
import Derived.StillTailTactics
import Derived.Test.YtfddpnhaejkacaaGreatLow7
import Derived.Test.YtfddpnhaejkacaaGreatLow8
import Derived.Test.YtfddpnhaejkacaaGreatLow5
import Derived.Test.YtfddpnhaejkacaaGreatLow10
set_option linter.unusedSimpArgs false
set_option linter.unusedVariables false
namespace Go.Proofs.YtfddpnhaejkacaaGreat
open Go.RowKit Tab
open Lib (hid)
set_option maxRecDepth 100000 in
set_option maxHeartbeats 1600000 in
theorem mnext_any (A:Option Addr) (n c:Nat) (ps:List Int) (i:Nat) (x:Int) (w:World) (h:RdP w w.heap.size A n ps) (hx:ps[i]? = some x) (hn:n≤1048576) :
  Calls Tryz.prog 121 #[.slice A n c,.int .i64 (i:Int)] w (Ans (.int .i64 (nextP ps i x:Nat)) w):=by
 have hlen:=h.len
 have hi:i < n:=by have:=(List.getElem?_eq_some_iff.1 hx).1;omega
 have hle:=nextP_le (ps:=ps) (x:=x) (i:=i) (by omega)
 have hgt:=nextP_gt ps i x
 have HAT:=hid (nextP_at (ps:=ps) (i:=i) (x:=x))
 have HAH:Hid (∀ k,i < k→k < nextP ps i x→∃ y,ps[k]? = some y∧y≠x):=hid fun k=>nextP_ahead
 have hnn:nextP ps i x≤n:=by omega
 rw[hlen] at HAT
 have HP:=hid h
 have HX:=hid hx
 generalize nextP ps i x=t at HAT HAH hgt hnn ⊢
 clear h hlen hle hx
 have hw1:IntKind.i64.wrap ((i:Int)+1)=(i:Int)+1:=IntWalk.i64_in _ (by omega)
 go_enter Tryz.func121,Tryz.ntmps121
 go_wp2_with fail
 go_loopw [5] (fun s wr=>∃ j:Nat,i < j∧j≤t∧s=.int .i64 j∧Below w.heap.size w wr) (fun s _=>n - (intOf s).toNat)
 case atStart=>exact⟨i+1,by omega,by omega,by go_num,Below.refl _ _⟩
 case round =>
  obtain⟨j,hij,hjt,rfl,hb⟩:=hrel
  have HB:=hid hb
  by_cases hjn:j < n
  ·have hjni:(j:Int) < (n:Int):=by omega
   obtain⟨ad,y,z,rfl,had,hy,c0,_⟩:=(HP.out.on hb).at_ j hjn
   obtain⟨ad',x',z',ea,_,hx',d0,_⟩:=(HP.out.on hb).at_ i hi
   injection ea with ea
   subst ea
   rw[HX.out] at hx'
   injection hx' with hx'
   subst hx'
   have hin:(i:Int) < (n:Int):=by omega
   have hw2:IntKind.i64.wrap ((j:Int)+1)=(j:Int)+1:=IntWalk.i64_in _ (by omega)
   by_cases hyx:y=x
   ·have e1:(y != x)=false:=by rw[hyx];exact bne_self_eq_false x
    obtain rfl:t=j:=by
     rcases Nat.lt_or_ge j t with h1 | h1
     ·obtain⟨u,hu,hn⟩:=HAH.out j hij h1
      rw[hy] at hu
      injection hu with hu
      exact absurd (hu.symm.trans hyx) hn
     ·omega
    clear hb hy hyx
    go_wp2_with fail
    go_quiet (fail)
    go_wp2_with fail
    go_ret
    exact Ans.mk rfl (Below.drewN HB.out nq)
   ·have e1:(y != x)=true:=bne_iff_ne.2 hyx
    have hjt':j < t:=by
     rcases Nat.lt_or_ge j t with h1 | h1
     ·exact h1
     ·obtain rfl:j=t:=by omega
      have:=HAT.out hjn
      rw[hy] at this
      injection this with this
      exact absurd this hyx
    clear hb hy hyx
    go_wp2_with fail
    go_quiet (fail)
    go_wp2_with fail
    go_roundw
    case rel=>exact⟨j+1,by omega,by omega,by go_num,Below.drewN HB.out nq⟩
    case measure=>simp[intOf];omega
  ·have hjni:¬ (j:Int) < (n:Int):=by omega
   obtain rfl:t=j:=by omega
   clear hb
   go_wp2_with fail
   go_quiet (fail)
   go_wp2_with fail
   go_ret
   exact Ans.mk rfl (Below.drewN HB.out nq)
def matZ (ps:List Int) (I J:Int):Bool:=plcZ ps.length I J && decide ((nextP ps I.toNat (ps.getD I.toNat 0):Int)=J)
set_option maxRecDepth 100000 in
set_option maxHeartbeats 1600000 in
theorem mates_any (A:Option Addr) (n c:Nat) (ps:List Int) (I J:Int) (rt:Bool) (w:World) (h:RdP w w.heap.size A n ps) (hn:n≤1048576) :
  Calls Tryz.prog 123 #[.slice A n c,.agg #[.int .i64 I,.int .i64 J,.bool rt]] w (Ans (.bool (matZ ps I J)) w):=by
 have hb0:=bl1 w (.cells #[.int .i64 I,.int .i64 J,.bool rt] 99)
 have f0:(w.alloc (.cells #[.int .i64 I,.int .i64 J,.bool rt] 99)).cell? ⟨w.heap.size,0,none⟩=some (.int .i64 I):=World.cell?_alloc_mark _ _ _ _ _
 have f1:(w.alloc (.cells #[.int .i64 I,.int .i64 J,.bool rt] 99)).cell? ⟨w.heap.size,1,none⟩=some (.int .i64 J):=World.cell?_alloc_mark _ _ _ _ _
 have f2:(w.alloc (.cells #[.int .i64 I,.int .i64 J,.bool rt] 99)).cell? ⟨w.heap.size,2,none⟩=some (.bool rt):=World.cell?_alloc_mark _ _ _ _ _
 have hP0:=h.on hb0
 have hlen:=h.len
 have HV:Hid (matZ ps I J=(plcZ n I J && decide ((nextP ps I.toNat (ps.getD I.toNat 0):Int)=J))):=hid (by unfold matZ;rw[hlen])
 generalize matZ ps I J=v at HV ⊢
 have HPL:=hid fun w'=>mplc_any A n c I J rt w'
 have HLN:=hid hlen
 have HB0:=hid hb0
 have HP:=hid hP0
 clear h hlen hb0 hP0
 go_enter Tryz.func123,Tryz.ntmps123
 go_upto_region 1 with fail
 have hgs:w.heap.size < (w.alloc (.cells #[.int .i64 I,.int .i64 J,.bool rt] 99)).heap.size:=by simp
 generalize w.alloc (.cells #[.int .i64 I,.int .i64 J,.bool rt] 99)=W at HB0 f0 f1 f2 HP hgs ⊢
 generalize w.heap.size=gm at f0 f1 f2 hgs ⊢
 cases hp:plcZ n I J with
 | false =>
  rw[hp] at HPL
  have e:v=false:=by rw[HV.out,hp];rfl
  subst e
  clear hp
  go_wp2_with fail
  refine Rgs.region (by kernel_rfl) (by kernel_rfl) (fun(opn:Nat) (vl:Value) (_:World)=>match opn with | 0=>vl=.slice A n c | 1=>vl=.agg #[.int .i64 I,.int .i64 J,.bool rt] | 2=>vl=.bool false | 3=>vl=.bool false | 4=>vl=undef | 5=>vl=undef | 6=>vl=undef | 7=>vl=undef | 8=>vl=undef | 9=>vl=undef | 10=>vl=undef | 11=>vl=.bool false | 12=>vl=.bool false | _=>True) (fun _ _ w'=>Below W.heap.size W w') (Below.refl _ _).drew (Rgs.steps_of ?_) ?_
  ·refine⟨?_,?_,?_,?_,?_,?_,?_,?_,?_,?_,?_,?_,?_,trivial⟩ <;> intro a w1 live S E D C h0 hk hW
   ·have e0:a.eval (.tmp 0)=.slice A n c:=E 0 rfl
    exact Rgs.val rfl (Reg.wanted_free rfl) (.slice A n c) (by have c:=Reg.consts a;generalize a.eval=ρ at *;simp[execOp,go_sem,c.1,c.2,e0]) rfl hW
   ·have e3:a.eval (.tmp 3)=.pointer (some ⟨gm,0,none⟩):=E 3 rfl
    have hc0:=(hW.cell (p:=⟨gm,0,none⟩) (World.block_lt_of_cell? _ _ f0)).trans f0
    have hc1:=(hW.cell (p:=⟨gm,1,none⟩) (World.block_lt_of_cell? _ _ f1)).trans f1
    have hc2:=(hW.cell (p:=⟨gm,2,none⟩) (World.block_lt_of_cell? _ _ f2)).trans f2
    exact Rgs.val rfl (Reg.wanted_free rfl) (.agg #[.int .i64 I,.int .i64 J,.bool rt]) (by have c:=Reg.consts a;generalize a.eval=ρ at *;simp[execOp,go_sem,c.1,c.2,e3,hc0,hc1,hc2]) rfl hW
   ·have d0:a.eval (.tmp 5)=.slice A n c:=D 0 rfl _ _ rfl rfl
    have d1:a.eval (.tmp 6)=.agg #[.int .i64 I,.int .i64 J,.bool rt]:=D 1 rfl _ _ rfl rfl
    refine Rgs.call rfl (Reg.wanted_free rfl) 120 #[.slice A n c,.agg #[.int .i64 I,.int .i64 J,.bool rt]] (by have c:=Reg.consts a;generalize a.eval=ρ at *;simp[execOp,go_sem,c.1,c.2,d0,d1]) ?_
    refine(HPL.out w1).mono ?_
    rintro e w5 ⟨rfl,hb5⟩
    exact⟨_,rfl,rfl,hW.trans (hb5.mono hW.size),fun j v _ h=>h⟩
   ·have d2:a.eval (.tmp 7)=.bool false:=D 2 rfl _ _ rfl rfl
    exact Rgs.val rfl (Reg.wanted_free rfl) (.bool false) (by have c:=Reg.consts a;generalize a.eval=ρ at *;simp[execOp,go_sem,c.1,c.2,d2]) rfl hW
   ·have dg:a.eval (.tmp 8)=.bool false:=D 3 rfl _ _ rfl rfl
    exact Rgs.skip rfl (Rgs.wanted_not rfl rfl dg rfl) rfl hW
   ·have dg:a.eval (.tmp 8)=.bool false:=D 3 rfl _ _ rfl rfl
    exact Rgs.skip rfl (Rgs.wanted_not rfl rfl dg rfl) rfl hW
   ·have dg:a.eval (.tmp 8)=.bool false:=D 3 rfl _ _ rfl rfl
    exact Rgs.skip rfl (Rgs.wanted_not rfl rfl dg rfl) rfl hW
   ·have dg:a.eval (.tmp 8)=.bool false:=D 3 rfl _ _ rfl rfl
    exact Rgs.skip rfl (Rgs.wanted_not rfl rfl dg rfl) rfl hW
   ·have dg:a.eval (.tmp 8)=.bool false:=D 3 rfl _ _ rfl rfl
    exact Rgs.skip rfl (Rgs.wanted_not rfl rfl dg rfl) rfl hW
   ·have dg:a.eval (.tmp 8)=.bool false:=D 3 rfl _ _ rfl rfl
    exact Rgs.skip rfl (Rgs.wanted_not rfl rfl dg rfl) rfl hW
   ·have dg:a.eval (.tmp 8)=.bool false:=D 3 rfl _ _ rfl rfl
    exact Rgs.skip rfl (Rgs.wanted_not rfl rfl dg rfl) rfl hW
   ·have d3:a.eval (.tmp 8)=.bool false:=D 3 rfl _ _ rfl rfl
    exact Rgs.val rfl (Reg.wanted_free rfl) (.bool false) (by have c:=Reg.consts a;generalize a.eval=ρ at *;simp[execOp,go_sem,c.1,c.2,d3]) rfl hW
   ·have d11:a.eval (.tmp 16)=.bool false:=D 11 rfl _ _ rfl rfl
    exact Rgs.val rfl (Reg.wanted_free rfl) (.bool false) (by have c:=Reg.consts a;generalize a.eval=ρ at *;simp[execOp,go_sem,c.1,c.2,d11]) rfl hW
  ·intro a w4 live hs hd E D Hl hW
   have e4:a.eval (.tmp 4)=.bool false:=by
    obtain⟨v,hv,he⟩:=D 12 _ rfl
    exact(he 4 rfl).trans hv
   rw[Rgs.act_ws a _ _ hs hd E [5,6,7,8,9,10,11,12,13,14,15,16,4] (by kernel_rfl)]
   simp only[List.foldl,List.setIfInBounds_toArray,List.set_cons_succ,List.set_cons_zero,e4]
   have HB9:=hid (HB0.out.trans (Below.mono hW HB0.out.size))
   have HW9:=hid hW
   clear E D Hl hW e4 HPL f0 f1 f2
   generalize a.eval=ρ
   clear a hs hd
   go_wp2_with fail
   go_ret
   exact Ans.mk rfl HB9.out
 | true =>
  rw[hp] at HPL
  have hpp:0≤I∧I < J∧J < (n:Int):=by
   unfold plcZ at hp
   simpa using hp
  obtain⟨i,rfl⟩:∃ i:Nat,I=i:=⟨I.toNat,by omega⟩
  have hin:i < ps.length:=by rw[HLN.out];omega
  have HX:=hid (List.getElem?_eq_getElem hin)
  generalize ps[i]=x at HX
  have HNX:=hid fun W' (hb:Below W.heap.size W W')=>mnext_any A n c ps i x W' (HP.out.on hb) HX.out hn
  have hgd:ps.getD (i:Int).toNat 0=x:=by
   rw[show (i:Int).toNat=i from rfl,List.getD_eq_getElem?_getD,HX.out]
   rfl
  have e:v=decide ((nextP ps i x:Int)=J):=by rw[HV.out,hp,hgd];rfl
  generalize nextP ps i x=t at HNX e
  have HQ:Hid (((t:Int) == J)=v):=hid (by rw[e];rfl)
  clear hp hgd e hin
  go_wp2_with fail
  refine Rgs.region (by kernel_rfl) (by kernel_rfl) (fun(opn:Nat) (vl:Value) (_:World)=>match opn with | 0=>vl=.slice A n c | 1=>vl=.agg #[.int .i64 (i:Int),.int .i64 J,.bool rt] | 2=>vl=.bool true | 3=>vl=.bool true | 4=>vl=.slice A n c | 5=>vl=.pointer (some ⟨gm,0,none⟩) | 6=>vl=.int .i64 (i:Int) | 7=>vl=.int .i64 (t:Int) | 8=>vl=.pointer (some ⟨gm,1,none⟩) | 9=>vl=.int .i64 J | 10=>vl=.bool v | 11=>vl=.bool v | 12=>vl=.bool v | _=>True) (fun _ _ w'=>Below W.heap.size W w') (Below.refl _ _).drew (Rgs.steps_of ?_) ?_
  ·refine⟨?_,?_,?_,?_,?_,?_,?_,?_,?_,?_,?_,?_,?_,trivial⟩ <;> intro a w1 live S E D C h0 hk hW
   ·have e0:a.eval (.tmp 0)=.slice A n c:=E 0 rfl
    exact Rgs.val rfl (Reg.wanted_free rfl) (.slice A n c) (by have c:=Reg.consts a;generalize a.eval=ρ at *;simp[execOp,go_sem,c.1,c.2,e0]) rfl hW
   ·have e3:a.eval (.tmp 3)=.pointer (some ⟨gm,0,none⟩):=E 3 rfl
    have hc0:=(hW.cell (p:=⟨gm,0,none⟩) (World.block_lt_of_cell? _ _ f0)).trans f0
    have hc1:=(hW.cell (p:=⟨gm,1,none⟩) (World.block_lt_of_cell? _ _ f1)).trans f1
    have hc2:=(hW.cell (p:=⟨gm,2,none⟩) (World.block_lt_of_cell? _ _ f2)).trans f2
    exact Rgs.val rfl (Reg.wanted_free rfl) (.agg #[.int .i64 (i:Int),.int .i64 J,.bool rt]) (by have c:=Reg.consts a;generalize a.eval=ρ at *;simp[execOp,go_sem,c.1,c.2,e3,hc0,hc1,hc2]) rfl hW
   ·have d0:a.eval (.tmp 5)=.slice A n c:=D 0 rfl _ _ rfl rfl
    have d1:a.eval (.tmp 6)=.agg #[.int .i64 (i:Int),.int .i64 J,.bool rt]:=D 1 rfl _ _ rfl rfl
    refine Rgs.call rfl (Reg.wanted_free rfl) 120 #[.slice A n c,.agg #[.int .i64 (i:Int),.int .i64 J,.bool rt]] (by have c:=Reg.consts a;generalize a.eval=ρ at *;simp[execOp,go_sem,c.1,c.2,d0,d1]) ?_
    refine(HPL.out w1).mono ?_
    rintro e w5 ⟨rfl,hb5⟩
    exact⟨_,rfl,rfl,hW.trans (hb5.mono hW.size),fun j v _ h=>h⟩
   ·have d2:a.eval (.tmp 7)=.bool true:=D 2 rfl _ _ rfl rfl
    exact Rgs.val rfl (Reg.wanted_free rfl) (.bool true) (by have c:=Reg.consts a;generalize a.eval=ρ at *;simp[execOp,go_sem,c.1,c.2,d2]) rfl hW
   ·have dg:a.eval (.tmp 8)=.bool true:=D 3 rfl _ _ rfl rfl
    have e0:a.eval (.tmp 0)=.slice A n c:=E 0 rfl
    exact Rgs.val rfl (Reg.wanted_if rfl rfl dg rfl) (.slice A n c) (by have c:=Reg.consts a;generalize a.eval=ρ at *;simp[execOp,go_sem,c.1,c.2,e0]) rfl hW
   ·have dg:a.eval (.tmp 8)=.bool true:=D 3 rfl _ _ rfl rfl
    have e3:a.eval (.tmp 3)=.pointer (some ⟨gm,0,none⟩):=E 3 rfl
    exact Rgs.val rfl (Reg.wanted_if rfl rfl dg rfl) (.pointer (some ⟨gm,0,none⟩)) (by have c:=Reg.consts a;generalize a.eval=ρ at *;simp[execOp,go_sem,c.1,c.2,e3]) rfl hW
   ·have dg:a.eval (.tmp 8)=.bool true:=D 3 rfl _ _ rfl rfl
    have d5:a.eval (.tmp 10)=.pointer (some ⟨gm,0,none⟩):=D 5 rfl _ _ rfl rfl
    have hc0:=(hW.cell (p:=⟨gm,0,none⟩) (World.block_lt_of_cell? _ _ f0)).trans f0
    have hc1:=(hW.cell (p:=⟨gm,1,none⟩) (World.block_lt_of_cell? _ _ f1)).trans f1
    have hc2:=(hW.cell (p:=⟨gm,2,none⟩) (World.block_lt_of_cell? _ _ f2)).trans f2
    exact Rgs.val rfl (Reg.wanted_if rfl rfl dg rfl) (.int .i64 (i:Int)) (by have c:=Reg.consts a;generalize a.eval=ρ at *;simp[execOp,go_sem,c.1,c.2,d5,hc0,hc1,hc2]) rfl hW
   ·have dg:a.eval (.tmp 8)=.bool true:=D 3 rfl _ _ rfl rfl
    have d4:a.eval (.tmp 9)=.slice A n c:=D 4 rfl _ _ rfl rfl
    have d6:a.eval (.tmp 11)=.int .i64 (i:Int):=D 6 rfl _ _ rfl rfl
    refine Rgs.call rfl (Reg.wanted_if rfl rfl dg rfl) 121 #[.slice A n c,.int .i64 (i:Int)] (by have c:=Reg.consts a;generalize a.eval=ρ at *;simp[execOp,go_sem,c.1,c.2,d4,d6]) ?_
    refine(HNX.out w1 hW).mono ?_
    rintro e w5 ⟨rfl,hb5⟩
    exact⟨_,rfl,rfl,hW.trans (hb5.mono hW.size),fun j v _ h=>h⟩
   ·have dg:a.eval (.tmp 8)=.bool true:=D 3 rfl _ _ rfl rfl
    have e3:a.eval (.tmp 3)=.pointer (some ⟨gm,0,none⟩):=E 3 rfl
    exact Rgs.val rfl (Reg.wanted_if rfl rfl dg rfl) (.pointer (some ⟨gm,1,none⟩)) (by have c:=Reg.consts a;generalize a.eval=ρ at *;simp[execOp,go_sem,c.1,c.2,e3]) rfl hW
   ·have dg:a.eval (.tmp 8)=.bool true:=D 3 rfl _ _ rfl rfl
    have d8:a.eval (.tmp 13)=.pointer (some ⟨gm,1,none⟩):=D 8 rfl _ _ rfl rfl
    have hc0:=(hW.cell (p:=⟨gm,1,none⟩) (World.block_lt_of_cell? _ _ f1)).trans f1
    exact Rgs.val rfl (Reg.wanted_if rfl rfl dg rfl) (.int .i64 J) (by have c:=Reg.consts a;generalize a.eval=ρ at *;simp[execOp,go_sem,c.1,c.2,d8,hc0]) rfl hW
   ·have dg:a.eval (.tmp 8)=.bool true:=D 3 rfl _ _ rfl rfl
    have d7:a.eval (.tmp 12)=.int .i64 (t:Int):=D 7 rfl _ _ rfl rfl
    have d9:a.eval (.tmp 14)=.int .i64 J:=D 9 rfl _ _ rfl rfl
    have hq:=HQ.out
    exact Rgs.val rfl (Reg.wanted_if rfl rfl dg rfl) (.bool v) (by have c:=Reg.consts a;generalize a.eval=ρ at *;simp[execOp,go_sem,c.1,c.2,d7,d9,hq]) rfl hW
   ·have d3:a.eval (.tmp 8)=.bool true:=D 3 rfl _ _ rfl rfl
    have d10:a.eval (.tmp 15)=.bool v:=D 10 rfl _ _ rfl rfl
    exact Rgs.val rfl (Reg.wanted_free rfl) (.bool v) (by have c:=Reg.consts a;generalize a.eval=ρ at *;simp[execOp,go_sem,c.1,c.2,d3,d10]) rfl hW
   ·have d11:a.eval (.tmp 16)=.bool v:=D 11 rfl _ _ rfl rfl
    exact Rgs.val rfl (Reg.wanted_free rfl) (.bool v) (by have c:=Reg.consts a;generalize a.eval=ρ at *;simp[execOp,go_sem,c.1,c.2,d11]) rfl hW
  ·intro a w4 live hs hd E D Hl hW
   have e4:a.eval (.tmp 4)=.bool v:=by
    obtain⟨v,hv,he⟩:=D 12 _ rfl
    exact(he 4 rfl).trans hv
   rw[Rgs.act_ws a _ _ hs hd E [5,6,7,8,9,10,11,12,13,14,15,16,4] (by kernel_rfl)]
   simp only[List.foldl,List.setIfInBounds_toArray,List.set_cons_succ,List.set_cons_zero,e4]
   have HB9:=hid (HB0.out.trans (Below.mono hW HB0.out.size))
   have HW9:=hid hW
   clear E D Hl hW e4 HPL f0 f1 f2 HNX
   generalize a.eval=ρ
   clear a hs hd
   go_wp2_with fail
   go_ret
   exact Ans.mk rfl HB9.out
theorem matZ_len {ps:List Int} {n:Nat} (h:ps.length=n) {I J:Int} (hp:matZ ps I J=true):0≤I∧I < J∧J < (n:Int)∧(nextP ps I.toNat (ps.getD I.toNat 0):Int)=J:=by
 unfold matZ plcZ at hp
 rw[h] at hp
 simp only[Bool.and_eq_true,decide_eq_true_eq] at hp
 exact⟨hp.1.1,hp.1.2.1,hp.1.2.2,hp.2⟩
theorem getD_at {ps:List Int} {i:Nat} {x:Int} (h:ps[i]? = some x):ps.getD i 0=x:=by
 rw[List.getD_eq_getElem?_getD,h]
 rfl
theorem mayZ_no {D:Int→Int→Bool} {ps:List Int} {I J:Int} (h:matZ ps I J=false):mayZ D ps I J=false:=by
 cases hm:mayZ D ps I J with
 | false=>rfl
 | true =>
  exfalso
  unfold mayZ at hm
  simp only[Bool.and_eq_true,decide_eq_true_eq] at hm
  obtain⟨h1,h2,h3,h4⟩:=hm
  have hi:I.toNat < ps.length:=by omega
  have hx:=List.getElem?_eq_getElem hi
  have h5:=mayP_next hx h4
  unfold matZ plcZ at h
  rw[getD_at hx,h5,decide_eq_true h1,decide_eq_true h2,decide_eq_true h3] at h
  simp at h
  omega
theorem mayZ_yes {D:Int→Int→Bool} {ps:List Int} {i j:Nat} {x:Int} (hx:ps[i]? = some x) (h:matZ ps (i:Int) (j:Int)=true) :
  mayZ D ps (i:Int) (j:Int)=!((ps.drop (i+1)).take (j - (i+1))).any (wayP D x):=by
 obtain⟨h1,h2,h3,h4⟩:=matZ_len rfl h
 rw[show (i:Int).toNat=i from rfl,getD_at hx] at h4
 rw[mayZ_nat D (by omega) (by omega)]
 exact mayP_mates hx (by omega) (by omega) (by omega)
theorem mid_ne {ps:List Int} {i j:Nat} {x:Int} (hx:ps[i]? = some x) (h:matZ ps (i:Int) (j:Int)=true):∀ y∈(ps.drop (i+1)).take (j - (i+1)),y≠x:=by
 obtain⟨h1,h2,h3,h4⟩:=matZ_len rfl h
 rw[show (i:Int).toNat=i from rfl,getD_at hx] at h4
 intro y hy
 obtain⟨k,k1,k2,k3⟩:=mem_between.1 hy
 obtain⟨z,hz,hn⟩:=nextP_ahead (ps:=ps) (i:=i) (x:=x) k1 (by omega)
 rw[hz] at k3
 injection k3 with k3
 exact k3▸hn
set_option maxRecDepth 100000 in
set_option maxHeartbeats 4000000 in
theorem may_any (A A3:Option Addr) (n c n3 c3:Nat) (ps:List Int) (m:Nat→Nat→Bool) (I J:Int) (rt:Bool) (w:World) (h:RdP w w.heap.size A n ps) (hM:RdM w w.heap.size A3 n3 (fun _=>n3) m)
  (hc:n≤c) (hn:n≤1048576) (h3:n3≤1024) :
  Calls Tryz.prog 122 #[.slice A n c,.slice A3 n3 c3,.agg #[.int .i64 I,.int .i64 J,.bool rt]] w (Ans (.bool (mayZ (depW n3 m) ps I J)) w):=by
 have hb0:=bl1 w (.cells #[.int .i64 I,.int .i64 J,.bool rt] 99)
 have hv0:Vec (w.alloc (.cells #[.int .i64 I,.int .i64 J,.bool rt] 99)) w.heap.size 3 (fun q=>if q=0 then .int .i64 I else if q=1 then .int .i64 J else .bool rt):=Vec.lit w _ _ 3 _ fun q hq=>by
  rcases(by omega:q=0∨q=1∨q=2) with rfl | rfl | rfl <;> rfl
 have hP0:=h.on hb0
 have hM0:=hM.on hb0
 have HLN:=hid h.len
 obtain⟨v,hv⟩:∃ v,v=mayZ (depW n3 m) ps I J:=⟨_,rfl⟩
 rw[← hv]
 have HV:=hid hv
 have HB0:=hid hb0
 have HP:=hid hP0
 have HM:=hid hM0
 clear hv h hM hb0 hP0 hM0
 go_enter Tryz.func122,Tryz.ntmps122
 go_upto_region 1 with fail
 generalize w.alloc (.cells #[.int .i64 I,.int .i64 J,.bool rt] 99)=W at HB0 hv0 HP HM ⊢
 obtain⟨gm,hgm⟩:∃ gm,gm=w.heap.size:=⟨_,rfl⟩
 rw[← hgm] at hv0 ⊢
 clear hgm
 have HVC:=hid hv0
 obtain⟨f0,f1,f2⟩:=hv0.three
 clear hv0
 have HMT:=hid (mates_any A n c ps I J rt W HP.out hn)
 cases hp:matZ ps I J with
 | false =>
  rw[hp] at HMT
  have e:v=false:=by rw[HV.out,mayZ_no hp]
  subst e
  clear hp
  go_wp2_with fail
  refine HMT.out.mono ?_
  rintro e w5 ⟨rfl,hb5⟩
  have HB5:=hid (HB0.out.trans (hb5.mono HB0.out.size))
  clear hb5 HMT f0 f1 f2
  go_wp2_with fail
  go_ret
  exact Ans.mk rfl HB5.out
 | true =>
  rw[hp] at HMT
  obtain⟨hI,hIJ,hJn,hnx⟩:=matZ_len HLN.out hp
  obtain⟨i,rfl⟩:∃ i:Nat,I=i:=⟨I.toNat,by omega⟩
  obtain⟨j,rfl⟩:∃ j:Nat,J=j:=⟨J.toNat,by omega⟩
  have hij:i < j:=by omega
  have hjn:j < n:=by omega
  obtain⟨x,hx⟩:∃ x,ps[i]? = some x:=⟨_,List.getElem?_eq_getElem (by have:=HLN.out;omega)⟩
  have hvv:v=!((ps.drop (i+1)).take (j - (i+1))).any (wayP (depW n3 m) x):=by rw[HV.out];exact mayZ_yes hx hp
  have hne:=mid_ne hx hp
  have HX:=hid hx
  clear hnx hp hx HV
  go_wp2_with fail
  refine HMT.out.mono ?_
  rintro e wm ⟨rfl,hbm⟩
  have hgw:=(HVC.out.on hbm)
  have HVW:=hid hgw
  have HPm:=hid (HP.out.on hbm)
  have HMm:=hid (HM.out.on hbm)
  have HBm:=hid (HB0.out.trans (hbm.mono HB0.out.size))
  clear hbm HMT f0 f1 f2 hgw HVC HP HM HB0
  obtain⟨f0,f1,f2⟩:=HVW.out.three
  obtain⟨ad,x',z',rfl,had,hx',_,_⟩:=HPm.out.at_ i (by omega)
  clear had hx'
  have hw1:IntKind.i64.wrap ((i:Int)+1)=(i:Int)+1:=IntWalk.i64_in _ (by omega)
  obtain⟨d,hd⟩:∃ d,j - (i+1)=d:=⟨_,rfl⟩
  obtain⟨Q,hQ⟩:∃ Q,Q=(ps.drop (i+1)).take d:=⟨_,rfl⟩
  rw[hd,← hQ] at hvv hne
  have hmid:=HPm.out.mid (k:=i+1) (j:=j) (by omega)
  rw[hd,← hQ] at hmid
  have HNE:=hid hne
  have HMID:=hid hmid
  have HVQ:=hid hvv
  have hdn:d≤1048576:=by omega
  have hij1:(i:Int)+1≤(j:Int):=by omega
  have hjc:(j:Int)≤(c:Int):=by omega
  have hci:¬ c=i+1:=by omega
  have htn:((i:Int)+1).toNat=i+1:=by omega
  clear hQ hvv hmid hne
  go_wp2_with fail
  clear f0 f1 f2
  go_loopw [8,21] (fun _ s wr=>∃ k:Nat,k≤d∧s=.int .i64 k∧(Q.take k).any (wayP (depW n3 m) x)=false∧Below wm.heap.size wm wr) (fun _ s _=>d - (intOf s).toNat)
  case atStart=>exact⟨0,by omega,rfl,rfl,Below.refl _ _⟩
  case round =>
   obtain⟨k,hk,rfl,hany,hb⟩:=hrel
   have HANY:=hid hany
   clear hany
   by_cases hkd:k < d
   ·have hkdi:(k:Int) < (d:Int):=by omega
    obtain⟨am,q,z,ea,hab,hq,c0,c1⟩:=(HMID.out.on hb).at_ k hkd
    injection ea with ea
    subst ea
    have hmo:(Q.take (k+1)).any (wayP (depW n3 m) x)=((Q.take k).any (wayP (depW n3 m) x) || wayP (depW n3 m) x q):=by
     obtain⟨hi',e⟩:=List.getElem?_eq_some_iff.1 hq
     rw[List.take_succ_eq_append_getElem hi',List.any_append,e]
     simp
    have hme:wayP (depW n3 m) x q=true→Q.any (wayP (depW n3 m) x)=true:=fun h=>List.any_eq_true.2 ⟨q,List.mem_of_getElem? hq,h⟩
    have hqx:=HNE.out q (List.mem_of_getElem? hq)
    have hway:=tieZ_way (n:=n3) (m:=m) hqx
    have HMO:=hid hmo
    have HME:=hid hme
    have hbl:=bl1 wr (.cells #[.int .i64 q,.int .i64 z] 75)
    have g0:(wr.alloc (.cells #[.int .i64 q,.int .i64 z] 75)).cell? ⟨wr.heap.size,0,none⟩=some (.int .i64 q):=World.cell?_alloc_mark _ _ _ _ _
    have hbb:=hb.trans (hbl.mono hb.size)
    obtain⟨f0,f1,f2⟩:=(HVW.out.on hbb).three
    obtain⟨ad',x2,z2,ea,_,hx2,d0,d1⟩:=(HPm.out.on hbb).at_ i (by omega)
    injection ea with ea
    subst ea
    rw[HX.out] at hx2
    injection hx2 with hx2
    subst hx2
    have hini:(i:Int) < (n:Int):=by omega
    have HB1:=hid (HBm.out.trans (hbb.mono HBm.out.size))
    have HBB:=hid hbb
    have HMX:=hid (HMm.out.on hbb)
    clear hmo hme hbl hq hb hbb hqx d1
    go_upto_region 6 with fail
    generalize wr.alloc (.cells #[.int .i64 q,.int .i64 z] 75)=W2 at g0 HB1 HBB HMX f0 f1 f2 d0 ⊢
    generalize wr.heap.size=gx at g0 ⊢
    clear c0 c1 hab
    have HDP:=hid fun nq=>mdep_any A3 n3 c3 m x q (W2.drewN nq) (HMX.out.on (Below.drewN (Below.refl _ _) nq)) h3
    rw[hway] at HDP
    generalize wayP (depW n3 m) x q=dv at HDP HME HMO
    clear hway
    cases dv with
    | true =>
     have e:v=false:=by rw[HVQ.out,HME.out rfl];rfl
     subst e
     go_quiet ((go_at_call 152;exact Calls.quiet_of_same (HDP.out _)))
     go_wp2_with fail
     go_ret
     exact Ans.mk rfl (Below.drewN HB1.out nq)
    | false =>
     have HN:Hid ((Q.take (k+1)).any (wayP (depW n3 m) x)=false):=hid (by rw[HMO.out,HANY.out];rfl)
     go_quiet ((go_at_call 152;exact Calls.quiet_of_same (HDP.out _)))
     go_wp2_with fail
     go_roundw
     case rel=>exact⟨k+1,by omega,by go_num,HN.out,Below.drewN HBB.out nq⟩
     case measure=>simp[intOf];omega
   ·have hkdi:¬ (k:Int) < (d:Int):=by omega
    have e:v=true:=by
     have h:=HANY.out
     rw[List.take_of_length_le (by rw[HMID.out.len];omega)] at h
     rw[HVQ.out,h]
     rfl
    subst e
    go_wp2_with fail
    go_ret
    exact Ans.mk rfl (HBm.out.trans (hb.mono HBm.out.size))
theorem allJ_one {D:Int→Int→Bool} {ps:List Int} {i:Nat} {x:Int} (hx:ps[i]? = some x):∀ f j,allJ D ps i f j=if j≤nextP ps i x∧nextP ps i x < j+f∧mayP D ps i (nextP ps i x)=true then [⟨i,nextP ps i x,false⟩,⟨i,nextP ps i x,true⟩] else []:=by
 intro f
 induction f with
 | zero=>intro j;rw[if_neg (by omega)];rfl
 | succ f ih =>
  intro j
  unfold allJ
  rw[ih (j+1)]
  unfold twoM
  by_cases hm:mayP D ps i j=true
  ·have e:=mayP_next hx hm
   rw[if_pos hm,if_neg (by omega),if_pos ⟨by omega,by omega,by rw[e];exact hm⟩,e]
   rfl
  ·rw[if_neg hm,List.nil_append]
   by_cases hj:nextP ps i x=j
   ·rw[if_neg (by omega),if_neg (by rw[hj];exact fun h=>hm h.2.2)]
   ·by_cases h2:j≤nextP ps i x∧nextP ps i x < j+(f+1)∧mayP D ps i (nextP ps i x)=true
    ·rw[if_pos h2,if_pos ⟨by omega,by omega,h2.2.2⟩]
    ·rw[if_neg h2,if_neg (fun h=>h2 ⟨by omega,by omega,h.2.2⟩)]
theorem allJ_next {D:Int→Int→Bool} {ps:List Int} {i n:Nat} {x:Int} (hx:ps[i]? = some x) (hn:ps.length=n) :
  allJ D ps i (n - (i+1)) (i+1)=if mayZ D ps (i:Int) (nextP ps i x:Nat)=true then [⟨i,nextP ps i x,false⟩,⟨i,nextP ps i x,true⟩] else []:=by
 have hi:i < n:=by have:=(List.getElem?_eq_some_iff.1 hx).1;omega
 have hgt:=nextP_gt ps i x
 rw[allJ_one hx]
 by_cases ht:nextP ps i x < n
 ·rw[mayZ_nat D hgt (by omega)]
  by_cases hm:mayP D ps i (nextP ps i x)=true
  ·rw[if_pos hm,if_pos ⟨by omega,by omega,hm⟩]
  ·rw[if_neg hm,if_neg (fun h=>hm h.2.2)]
 ·have e:mayZ D ps (i:Int) (nextP ps i x:Nat)=false:=by
   unfold mayZ
   rw[decide_eq_false (show ¬ ((nextP ps i x:Nat):Int) < (ps.length:Int) by omega)]
   simp
  rw[e,if_neg (by omega),if_neg (by decide)]
theorem elPm:Elt 129 99 3 24 (.agg #[.int .i64 0,.int .i64 0,.bool false]):=⟨Tryz.underlying129,by kernel_rfl,rfl,by omega⟩
set_option maxRecDepth 100000 in
set_option maxHeartbeats 4000000 in
theorem all_any (A A3:Option Addr) (n c n3 c3:Nat) (ps:List Int) (m:Nat→Nat→Bool) (w:World) (h:RdP w w.heap.size A n ps) (hM:RdM w w.heap.size A3 n3 (fun _=>n3) m)
  (hc:n≤c) (hn:n≤1024) (h3:n3≤1024) :
  Calls Tryz.prog 87 #[.slice A n c,.slice A3 n3 c3] w (RowM 99 (allF (depW n3 m) ps) w):=by
 have hlen:=h.len
 obtain⟨R,hR⟩:∃ R,R=allF (depW n3 m) ps:=⟨_,rfl⟩
 have hRl:R.length≤2097152:=by rw[hR];exact allF_le (by omega)
 rw[← hR]
 have HR:=hid hR
 have HLN:=hid hlen
 have HP:=hid h
 have HM:=hid hM
 clear h hM hlen hR
 go_enter Tryz.func87,Tryz.ntmps87
 go_wp2_with fail
 go_loopw [5,6,7,10] (fun q _ _ s wr=>∃(i k cq:Nat) (AQ:Option Addr) (Q:List Mo),i≤n∧s=.int .i64 i∧q=.slice AQ k cq∧OwnB 99 3 mcl wr w.heap.size AQ k cq Q∧Q++allI (depW n3 m) ps (n - i) i=R∧Below w.heap.size w wr) (fun _ _ _ s _=>n - (intOf s).toNat)
 case atStart=>exact⟨0,0,0,none,[],by omega,rfl,rfl,OwnB.nil _ _ _ _,by rw[HR.out,List.nil_append,← HLN.out];rfl,Below.refl _ _⟩
 case round =>
  obtain⟨i,k,cq,AQ,Q,hi,rfl,rfl,hown,hQ,hb⟩:=hrel
  by_cases hin:i < n
  ·have hini:(i:Int) < (n:Int):=by omega
   obtain⟨x,hx⟩:∃ x,ps[i]? = some x:=⟨_,List.getElem?_eq_getElem (by have:=HLN.out;omega)⟩
   have hst:=allI_step (depW n3 m) ps (i:=i) (by rw[HLN.out];exact hin)
   rw[HLN.out,allJ_next hx HLN.out] at hst
   have HNX:=hid (mnext_any A n c ps i x wr (HP.out.on hb) hx (by omega))
   have HQ1:Hid (Q++((if mayZ (depW n3 m) ps (i:Int) (nextP ps i x:Nat)=true then [⟨i,nextP ps i x,false⟩,⟨i,nextP ps i x,true⟩] else [])++allI (depW n3 m) ps (n - (i+1)) (i+1))=R):=hid (by rw[← hst];exact hQ)
   have htn:=nextP_le (ps:=ps) (i:=i) (x:=x) (by rw[HLN.out];exact hin)
   rw[HLN.out] at htn
   generalize nextP ps i x=t at HNX HQ1 htn
   have HOW:=hid hown
   have HB:=hid hb
   clear hst hx hown hb hQ
   go_wp2_with fail
   refine HNX.out.mono ?_
   rintro e w1 ⟨rfl,hb1⟩
   have hB1:=HB.out.trans (hb1.mono HB.out.size)
   have hbl:=bl1 w1 (.cells #[.int .i64 (i:Int),.int .i64 (t:Int),.bool false] 99)
   have g0:(w1.alloc (.cells #[.int .i64 (i:Int),.int .i64 (t:Int),.bool false] 99)).cell? ⟨w1.heap.size,0,none⟩=some (.int .i64 (i:Int)):=World.cell?_alloc_mark _ _ _ _ _
   have g1:(w1.alloc (.cells #[.int .i64 (i:Int),.int .i64 (t:Int),.bool false] 99)).cell? ⟨w1.heap.size,1,none⟩=some (.int .i64 (t:Int)):=World.cell?_alloc_mark _ _ _ _ _
   have g2:(w1.alloc (.cells #[.int .i64 (i:Int),.int .i64 (t:Int),.bool false] 99)).cell? ⟨w1.heap.size,2,none⟩=some (.bool false):=World.cell?_alloc_mark _ _ _ _ _
   have HB2:=hid (hB1.trans (hbl.mono hB1.size))
   have HOW2:=hid ((HOW.out.below hb1).below hbl)
   have hgl:w1.heap.size < (w1.alloc (.cells #[.int .i64 (i:Int),.int .i64 (t:Int),.bool false] 99)).heap.size:=by simp
   clear hb1 hB1 hbl HOW HB HNX
   go_upto_region 6 with fail
   generalize w1.alloc (.cells #[.int .i64 (i:Int),.int .i64 (t:Int),.bool false] 99)=W1 at g0 g1 g2 HB2 HOW2 hgl ⊢
   generalize w1.heap.size=gm at g0 g1 g2 hgl ⊢
   have HMA:=hid (may_any A A3 n c n3 c3 ps m (i:Int) (t:Int) false W1 (HP.out.on HB2.out) (HM.out.on HB2.out) hc (by omega) h3)
   generalize mayZ (depW n3 m) ps (i:Int) (t:Int)=bv at HMA HQ1
   cases bv with
   | false =>
    have hq:Q++allI (depW n3 m) ps (n - (i+1)) (i+1)=R:=by
     have h:=HQ1.out
     rw[if_neg (by decide),List.nil_append] at h
     exact h
    have HQ3:=hid hq
    clear hq
    go_wp2_with fail
    refine HMA.out.mono ?_
    rintro e w5 ⟨rfl,hb5⟩
    have HB5:=hid (HB2.out.trans (hb5.mono HB2.out.size))
    have HOW5:=hid (HOW2.out.below hb5)
    clear hb5 HMA g0 g1 g2
    go_wp2_with fail
    go_roundw
    case rel=>exact⟨i+1,k,cq,AQ,Q,by omega,by go_num,rfl,HOW5.out,HQ3.out,HB5.out⟩
    case measure=>simp[intOf];omega
   | true =>
    have hq:(Q++[⟨i,t,false⟩,⟨i,t,true⟩])++allI (depW n3 m) ps (n - (i+1)) (i+1)=R:=by
     have h:=HQ1.out
     rw[if_pos rfl] at h
     rw[List.append_assoc]
     exact h
    have hkl:k+2≤2097152:=by
     have h1:=congrArg List.length hq
     rw[List.length_append,List.length_append,HOW2.out.len] at h1
     simp only[List.length_cons,List.length_nil] at h1
     omega
    have HQ3:=hid hq
    clear hq
    go_wp2_with fail
    refine HMA.out.mono ?_
    rintro e w5 ⟨rfl,hb5⟩
    have HB5:=hid (HB2.out.trans (hb5.mono HB2.out.size))
    have hq0:=(hb5.cell (p:=⟨gm,0,none⟩) hgl).trans g0
    have hq1:=(hb5.cell (p:=⟨gm,1,none⟩) hgl).trans g1
    have hq2:=(hb5.cell (p:=⟨gm,2,none⟩) hgl).trans g2
    have hbx:=bl1 w5 (.cells #[.int .i64 (i:Int),.int .i64 (t:Int),.bool false,.int .i64 (i:Int),.int .i64 (t:Int),.bool true] 99)
    have how5:=(HOW2.out.below hb5).below hbx
    have hown5:=how5.own
    have hrd:=rdV_new w5 #[.int .i64 (i:Int),.int .i64 (t:Int),.bool false,.int .i64 (i:Int),.int .i64 (t:Int),.bool true] 99 (([⟨i,t,false⟩,⟨i,t,true⟩]:List Mo).flatMap mcl) rfl
    have HB6:=hid (HB5.out.trans (hbx.mono HB5.out.size))
    have hs6:w.heap.size≤(w5.alloc (.cells #[.int .i64 (i:Int),.int .i64 (t:Int),.bool false,.int .i64 (i:Int),.int .i64 (t:Int),.bool true] 99)).heap.size:=HB6.out.size
    have hkq:=HOW2.out.len
    have hfm:Q.flatMap mcl++([⟨i,t,false⟩,⟨i,t,true⟩]:List Mo).flatMap mcl=(Q++([⟨i,t,false⟩,⟨i,t,true⟩]:List Mo)).flatMap mcl:=List.flatMap_append.symm
    clear hb5 HMA hbx HB5 how5 g0 g1 g2
    go_wp2_with (at_builtin;go_loud (refine wpList_appV elPm rfl (.tmp 22) (.tmp 29) rfl rfl w.heap.size AQ k cq _ rfl hown5 _ 2 2 _ _ rfl hrd rfl (mcl_one _) (by omega) (by unfold maxLen;omega) hs6 (k+2) rfl _ hfm ?_;intro A8 c8 w8 hw8 hb8 _))
    go_roundw
    case rel=>exact⟨i+1,k+2,c8,A8,_,by omega,by go_num,rfl,⟨by rw[List.length_append,hkq];rfl,hw8⟩,HQ3.out,HB6.out.trans hb8⟩
    case measure=>simp[intOf];omega
  ·have hini:¬ (i:Int) < (n:Int):=by omega
   obtain rfl:n=i:=by omega
   have hq:Q=R:=by
    rw[Nat.sub_self] at hQ
    simpa [allI] using hQ
   subst hq
   have HKL:=hid hown.len
   have HOW:=hid hown
   have HB:=hid hb
   clear hown hb hQ
   go_wp2_with fail
   go_ret
   exact⟨AQ,cq,by rw[HKL.out];rfl,by rw[HKL.out];exact HOW.out,HB.out⟩
structure Zr where
 p:Int
 z:Int
def zcl (x:Zr):List Value:=[.int .i64 x.p,.int .i64 x.z]
theorem zcl_len (x:Zr):(zcl x).length=2:=rfl
theorem zcl_one (l:List Zr):∀ u∈l.flatMap zcl,u.oneCell'=true:=by
 intro u hu
 obtain⟨x,_,hx⟩:=List.mem_flatMap.1 hu
 simp[zcl] at hx
 rcases hx with rfl | rfl <;> rfl
def clp (x:Zr):Rn:=⟨x.p,x.z.toNat⟩
def zOf (r:Rn):Zr:=⟨r.p,r.n⟩
theorem clp_zOf (L:List Rn):(L.map zOf).map clp=L:=by
 rw[List.map_map]
 conv=>rhs;rw[← List.map_id L]
 rfl
theorem rs_z (L:List Rn):(L.map zOf).flatMap zcl=rs L:=by
 rw[rs_flat,List.flatMap_map]
 rfl
theorem RdR.z {w:World} {B n:Nat} {A:Option Addr} {L:List Rn} (h:RdR w B A n L):RdB zcl w B A n (L.map zOf):=⟨by rw[List.length_map];exact h.len,by rw[rs_z];exact h.rd⟩
theorem zmv_row {w:World} {B n:Nat} {A:Option Addr} {L:List Rn} (h:RdB zcl w B A n (L.map zOf)):RdR w B A n L:=⟨by rw[← h.len,List.length_map],by rw[← rs_z];exact h.rd⟩
theorem zmv {Z:List Zr} {i j:Nat} {x y:Zr} {T:Nat} (hij:i < j) (hx:Z[i]? = some x) (hy:Z[j]? = some y) (hT:T=y.z.toNat+x.z.toNat) (hz:∀ k r,Z[k]? = some r→k≠i→k≠j→0≤r.z) :
  (Z.set j ⟨y.p,(T:Int)⟩).set i ⟨x.p,0⟩=(mv (Z.map clp) i j true).map zOf∧(Z.set i ⟨x.p,(T:Int)⟩).set j ⟨y.p,0⟩=(mv (Z.map clp) i j false).map zOf:=by
 have h1:=(List.getElem?_eq_some_iff.1 hx).1
 have h2:=(List.getElem?_eq_some_iff.1 hy).1
 have e1:(Z.map clp)[i]? = some (clp x):=by rw[List.getElem?_map,hx];rfl
 have e2:(Z.map clp)[j]? = some (clp y):=by rw[List.getElem?_map,hy];rfl
 unfold mv
 rw[e1,e2]
 subst hT
 have key:∀ k,k≠i→k≠j→((Z.map clp).map zOf)[k]? = Z[k]?:=fun k k1 k2=>by
  rw[List.getElem?_map,List.getElem?_map]
  cases hk:Z[k]? with
  | none=>rfl
  | some r =>
   have:=hz k r hk k1 k2
   show some (zOf (clp r))=some r
   unfold zOf clp
   obtain⟨rp,rz⟩:=r
   dsimp only at this ⊢
   rw[show ((rz.toNat:Nat):Int)=rz by omega]
 refine⟨?_,?_⟩
 ·simp only[if_true,List.map_set]
  apply List.ext_getElem?
  intro k
  by_cases k1:k=i
  ·subst k1
   rw[List.getElem?_set_self (by simp;omega),List.getElem?_set_self (by simp;omega)]
   rfl
  ·rw[List.getElem?_set_ne (Ne.symm k1),List.getElem?_set_ne (Ne.symm k1)]
   by_cases k2:k=j
   ·subst k2
    rw[List.getElem?_set_self (by omega),List.getElem?_set_self (by simp;omega)]
    rfl
   ·rw[List.getElem?_set_ne (Ne.symm k2),List.getElem?_set_ne (Ne.symm k2),key k k1 k2]
 ·simp only[Bool.false_eq_true,if_false,List.map_set]
  apply List.ext_getElem?
  intro k
  by_cases k2:k=j
  ·subst k2
   rw[List.getElem?_set_self (by simp;omega),List.getElem?_set_self (by simp;omega)]
   rfl
  ·rw[List.getElem?_set_ne (Ne.symm k2),List.getElem?_set_ne (Ne.symm k2)]
   by_cases k1:k=i
   ·subst k1
    rw[List.getElem?_set_self (by omega),List.getElem?_set_self (by simp;omega)]
    rfl
   ·rw[List.getElem?_set_ne (Ne.symm k1),List.getElem?_set_ne (Ne.symm k1),key k k1 k2]
theorem moreZ_any (s:Nat) (n:Int) (w:World) (h:(s:Int)+n≤4611686018427387904) (hs:s≤4611686018427387904) :
  Calls Tryz.prog 102 #[.int .i64 (s:Int),.int .i64 n] w fun e w'=>e=.returned (.int .i64 ((s+n.toNat:Nat):Int))∧w'=w:=by
 by_cases h0:n < 1
 ·have e:((s+n.toNat:Nat):Int)=(s:Int):=by omega
  rw[e]
  clear e
  go_enter Tryz.func102,Tryz.ntmps102
  go_wp2
  all_goals
   go_ret
   exact⟨rfl,rfl⟩
 ·exact(more_any (s:Int) n (s:Int) n w (by omega) (by omega) (by omega) rfl rfl).mono fun e w' hh=>⟨hh.1.trans (by rw[show ((s+n.toNat:Nat):Int)=(s:Int)+n by omega]),hh.2⟩
set_option maxRecDepth 100000 in
set_option maxHeartbeats 1600000 in
theorem lengthZ_any (A:Option Addr) (n cap:Nat) (Z:List Zr) (w:World) (h:RdB zcl w w.heap.size A n Z) (hc:n≤cap) (hn:n≤1048576) (ht:ticks (Z.map clp)≤1099511627776) :
  Calls Tryz.prog 90 #[.slice A n cap] w (Ans (.int .i64 (ticks (Z.map clp):Nat)) w):=by
 go_enter Tryz.func90,Tryz.ntmps90
 go_wp2_with fail
 go_loopw [3,8] (fun q s wr=>∃(i m:Nat),i≤n∧s=.int .i64 i∧q=.int .i64 m∧m=ticks ((Z.map clp).take i)∧Below w.heap.size w wr) (fun _ s _=>n - (intOf s).toNat)
 case atStart=>exact⟨0,0,by omega,rfl,rfl,by simp[ticks],Below.refl _ _⟩
 case round =>
  obtain⟨i,m,hi,rfl,rfl,hm,hb⟩:=hrel
  by_cases hlt:i < n
  ·obtain⟨ad,r,rfl,had,hr,c0',ck⟩:=(h.on hb).at_ zcl_len (by omega) hlt
   have c0:=c0' _ rfl
   have c1:=ck 1 _ (by omega) rfl
   have hrr:(Z.map clp)[i]? = some (clp r):=by rw[List.getElem?_map,hr];rfl
   have hmore:ticks ((Z.map clp).take (i+1))=ticks ((Z.map clp).take i)+r.z.toNat:=by
    obtain⟨hi',e⟩:=List.getElem?_eq_some_iff.1 hrr
    rw[List.take_succ_eq_append_getElem hi',ticks_append,e]
    rfl
   have hall:=take_ticks (Z.map clp) (i+1)
   rw[hmore,← hm] at hall
   rw[← hm] at hmore
   have hlti:(i:Int) < (n:Int):=by omega
   have hbl:=bl1 wr (.cells #[.int .i64 r.p,.int .i64 r.z] 75)
   have HB:=hid (hb.trans (hbl.mono hb.size))
   have HM:=hid hmore
   have HMR:=hid fun W=>moreZ_any m r.z W (by omega) (by omega)
   clear hmore hm hbl hr hrr c0' ck hb had
   go_wp2_with fail
   refine(HMR.out _).mono ?_
   rintro e w1 ⟨rfl,rfl⟩
   go_wp2_with fail
   go_roundw
   case rel=>exact⟨i+1,m+r.z.toNat,by omega,by go_num,by congr 1;omega,HM.out.symm,HB.out⟩
   case measure=>simp[intOf];omega
  ·have hlti:¬ (i:Int) < (n:Int):=by omega
   have e:m=ticks (Z.map clp):=by rw[hm,List.take_of_length_le (by rw[List.length_map,h.len];omega)]
   have HE:=hid e
   clear e hm
   go_wp2_with fail
   go_ret
   exact Ans.mk (by rw[HE.out];rfl) hb
def TwoX (g0:Nat) (x y:Zr) (v:Value) (w:World):Prop:=∃ h,v=.slice (some ⟨h,0,none⟩) 2 2∧g0≤h∧h < w.heap.size∧RdB zcl w w.heap.size (some ⟨h,0,none⟩) 2 [x,y]
theorem TwoX.on {g0:Nat} {x y:Zr} {v:Value} {w w':World} (h:TwoX g0 x y v w) (hb:Below w.heap.size w w'):TwoX g0 x y v w':=by
 obtain⟨g,h1,h2,h3,h4⟩:=h
 exact⟨g,h1,h2,Nat.lt_of_lt_of_le h3 hb.size,h4.on hb⟩
theorem TwoX.put {g0:Nat} {x y:Zr} {v:Value} {w:World} (h:TwoX g0 x y v w) {p:Addr} (hp:p.block < g0) {u:Value}:TwoX g0 x y v (w.setCell p u):=by
 obtain⟨g,h1,h2,h3,h4⟩:=h
 refine⟨g,h1,h2,by simpa using h3,?_⟩
 have:=h4.other p u (fun b e=>by
  obtain rfl:g=b:=Option.some.inj e
  omega)
 simpa using this
def DoW (w0:World) (p:Addr) (v:Value) (live:Nat→Bool) (w:World):Prop:=∃ w1,Below w0.heap.size w0 w1∧w=if live 14=true then w1.setCell p v else w1
theorem DoW.start {w0:World} {p:Addr} {v:Value}:DoW w0 p v (fun _=>false) w0.drew:=⟨w0.drew,(Below.refl _ _).drew,by simp⟩
theorem DoW.off {w0 w:World} {p:Addr} {v:Value} {live:Nat→Bool} (h:DoW w0 p v live w) (hl:live 14=false):Below w0.heap.size w0 w:=by
 obtain⟨w1,hb,e⟩:=h
 rw[hl] at e
 exact e▸hb
theorem DoW.on {w0 w:World} {p:Addr} {v:Value} {live:Nat→Bool} (h:DoW w0 p v live w) (hl:live 14=true):∃ w1,Below w0.heap.size w0 w1∧w=w1.setCell p v:=by
 obtain⟨w1,hb,e⟩:=h
 rw[hl] at e
 exact⟨w1,hb,e⟩
theorem DoW.upd {w0 w:World} {p:Addr} {v:Value} {live:Nat→Bool} {i:Nat} (h:DoW w0 p v live w) (hi:i≠14):DoW w0 p v (Rgs.upd live i) w:=by
 obtain⟨w1,hb,e⟩:=h
 have e2:Rgs.upd live i 14=live 14:=by unfold Rgs.upd;simp[Ne.symm hi]
 exact⟨w1,hb,by rw[e2];exact e⟩
theorem DoW.more {w0 w w':World} {p:Addr} {v:Value} {live:Nat→Bool} {i:Nat} (h:DoW w0 p v live w) (hl:live 14=false) (hb:Below w.heap.size w w') (hi:i≠14:=by decide):DoW w0 p v (Rgs.upd live i) w':=by
 have h0:=h.off hl
 have e2:Rgs.upd live i 14=false:=by rw[← hl];unfold Rgs.upd;simp[Ne.symm hi]
 exact⟨w',h0.trans (hb.mono h0.size),by rw[e2];rfl⟩
theorem DoW.put {w0 w:World} {p:Addr} {v:Value} {live:Nat→Bool} (h:DoW w0 p v live w) (hl:live 14=false):DoW w0 p v (Rgs.upd live 14) (w.setCell p v):=⟨w,h.off hl,by rw[Rgs.upd_self];rfl⟩
def DoA (n:Nat) (Z:List Zr) (I J:Int) (rt:Bool) (w:World) (e:Ending) (w':World):Prop :=
 (plcZ n I J=true→RowQ (tidy (mv (Z.map clp) I.toNat J.toNat rt)) w e w')∧(plcZ n I J=false→∃ A c,e=.returned (.slice A n c)∧RdB zcl w' w'.heap.size A n Z∧n≤c∧Below w.heap.size w w')
set_option maxRecDepth 100000 in
set_option maxHeartbeats 8000000 in
theorem mdo_any (A:Option Addr) (n c0:Nat) (Z:List Zr) (I J:Int) (rt:Bool) (w:World) (h:RdB zcl w w.heap.size A n Z) (hc:n≤c0) (hn:n≤1048576) (ht:ticks (Z.map clp)≤1099511627776)
  (hz:plcZ n I J=true→∀ k r,Z[k]? = some r→k≠I.toNat→k≠J.toNat→0≤r.z) :
  Calls Tryz.prog 86 #[.slice A n c0,.agg #[.int .i64 I,.int .i64 J,.bool rt]] w (DoA n Z I J rt w):=by
 have hlen:=h.len
 have hb0:=bl1 w (.cells #[.int .i64 I,.int .i64 J,.bool rt] 99)
 have hv0:Vec (w.alloc (.cells #[.int .i64 I,.int .i64 J,.bool rt] 99)) w.heap.size 3 (fun q=>if q=0 then .int .i64 I else if q=1 then .int .i64 J else .bool rt):=Vec.lit w _ _ 3 _ fun q hq=>by
  rcases(by omega:q=0∨q=1∨q=2) with rfl | rfl | rfl <;> rfl
 have hP0:=h.on hb0
 have HLN:=hid hlen
 have HNAT:=hid hz
 clear h hlen hz
 go_enter Tryz.func86,Tryz.ntmps86
 go_upto_region 1 with fail
 generalize w.alloc (.cells #[.int .i64 I,.int .i64 J,.bool rt] 99)=W at hb0 hv0 hP0 ⊢
 obtain⟨gm,hgm⟩:∃ gm,gm=w.heap.size:=⟨_,rfl⟩
 rw[← hgm] at hv0 ⊢
 have HGM:=hid hgm
 clear hgm
 have hown0:OwnV 75 2 W W.heap.size none 0 0 []:=OwnV.nil _ _ _ _
 have hrd:=hP0.rd
 go_upto_region 3 with (at_builtin;go_loud (refine wpList_appV elR rfl (.tmp 8) (.tmp 9) rfl rfl W.heap.size none 0 0 [] rfl hown0 A n c0 (Z.flatMap zcl) _ rfl hrd (by rw[flat_len zcl_len,HLN.out]) (zcl_one _) (by omega) (by unfold maxLen;omega) (Nat.le_refl _) n (Nat.zero_add _) (Z.flatMap zcl) (List.nil_append _) ?_;intro A4 c4 wq hw4 hb4 hot4))
 have HBQ:=hid (hb0.trans (hb4.mono hb0.size))
 have HOB0:Hid (OwnB 75 2 zcl wq W.heap.size A4 n c4 Z):=hid ⟨HLN.out,hw4⟩
 have HVM:=hid (hv0.on hb4)
 have HGW0:Hid (gm < W.heap.size):=hid hv0.lt
 have HROW0:=hid (hP0.on hb4)
 obtain⟨c,rfl⟩:∃ c,c=c4:=⟨_,rfl⟩
 clear hw4 hb4 hot4 hown0 hrd hb0 hv0 hP0
 have HPL:=hid (mplc_any A n c0 I J rt wq)
 obtain⟨f0,f1,f2⟩:=HVM.out.three
 cases hp:plcZ n I J with
 | false =>
  rw[hp] at HPL
  go_wp2_with fail
  refine HPL.out.mono ?_
  rintro e w5 ⟨rfl,hb5⟩
  have HK5:=hid hb5
  clear hb5 HPL f0 f1 f2
  go_wp2_with fail
  go_ret
  exact⟨fun e=>(by rw[hp] at e;cases e),fun _=>⟨A4,c,rfl,(HOB0.out.below HK5.out).rdb,HOB0.out.cap,HBQ.out.trans (HK5.out.mono HBQ.out.size)⟩⟩
 | true =>
  rw[hp] at HPL
  have hpp:0≤I∧I < J∧J < (n:Int):=by
   unfold plcZ at hp
   simpa using hp
  obtain⟨i,rfl⟩:∃ i:Nat,I=i:=⟨I.toNat,by omega⟩
  obtain⟨j,rfl⟩:∃ j:Nat,J=j:=⟨J.toNat,by omega⟩
  have hij:i < j:=by omega
  have hjn:j < n:=by omega
  obtain⟨x,hx⟩:∃ x,Z[i]? = some x:=⟨_,List.getElem?_eq_getElem (by have:=HLN.out;omega)⟩
  obtain⟨y,hy⟩:∃ y,Z[j]? = some y:=⟨_,List.getElem?_eq_getElem (by have:=HLN.out;omega)⟩
  have HX:=hid hx
  have HY:=hid hy
  have HLi:Hid (i < n):=hid (by omega)
  have HLj:Hid (j < n):=hid hjn
  have HLT:Hid ((i:Int) < (n:Int)∧(j:Int) < (n:Int)∧¬ (i:Int) < 0∧¬ (j:Int) < 0):=hid ⟨by omega,by omega,by omega,by omega⟩
  have hnat:=HNAT.out hp
  obtain⟨g,rfl,hgW,hgq⟩:=HOB0.out.block (by omega)
  obtain⟨T,hT⟩:∃ T,T=y.z.toNat+x.z.toNat:=⟨_,rfl⟩
  have HZM:=hid (zmv hij hx hy hT hnat)
  have ex:(Z.map clp)[i]? = some (clp x):=by rw[List.getElem?_map,hx];rfl
  have ey:(Z.map clp)[j]? = some (clp y):=by rw[List.getElem?_map,hy];rfl
  have HTK:Hid (ticks (mv (Z.map clp) i j true)≤1099511627776∧ticks (mv (Z.map clp) i j false)≤1099511627776):=hid ⟨by rw[mv_ticks hij ex ey];exact ht,by rw[mv_ticks hij ex ey];exact ht⟩
  have hxy:y.z.toNat+x.z.toNat≤1099511627776:=by
   have h1:(mv (Z.map clp) i j false)[i]? = some ⟨x.p,(clp y).n+(clp x).n⟩:=by
    unfold mv
    rw[ex,ey]
    simp only[Bool.false_eq_true,if_false]
    rw[List.getElem?_set_ne (by omega),List.getElem?_set_self (List.getElem?_eq_some_iff.1 ex).1]
    rfl
   have h2:=mem_ticks (List.mem_of_getElem? h1)
   rw[mv_ticks hij ex ey] at h2
   exact Nat.le_trans h2 ht
  have HL1:Hid (∀ A W,RdB zcl W W.heap.size A 2 [x,y]→Calls Tryz.prog 90 #[.slice A 2 2] W (Ans (.int .i64 (T:Int)) W)):=hid fun A W hr=>by
   have h1:=lengthZ_any A 2 2 [x,y] W hr (by omega) (by omega) (by simp[ticks,clp];omega)
   rw[show ticks ([x,y].map clp)=T by simp[ticks,clp];omega] at h1
   exact h1
  have HL2:Hid (∀ A W,RdB zcl W W.heap.size A 2 [y,x]→Calls Tryz.prog 90 #[.slice A 2 2] W (Ans (.int .i64 (T:Int)) W)):=hid fun A W hr=>by
   have h1:=lengthZ_any A 2 2 [y,x] W hr (by omega) (by omega) (by simp[ticks,clp];omega)
   rw[show ticks ([y,x].map clp)=T by simp[ticks,clp];omega] at h1
   exact h1
  have HOUT:Hid (∀ e w',RowQ (tidy (mv (Z.map clp) i j rt)) w e w'→DoA n Z (i:Int) (j:Int) rt w e w'):=hid fun e w' hq=>⟨fun _=>hq,fun e=>by rw[hp] at e;cases e⟩
  have HGW:Hid (w.heap.size≤g):=hid (by have h1:=HGM.out;have h2:=HGW0.out;omega)
  have HGMN:Hid (gm≠g):=hid (by have h2:=HGW0.out;omega)
  clear hp hx hy hT hnat ex ey hxy HNAT
  go_wp2_with fail
  refine HPL.out.mono ?_
  rintro e wv ⟨rfl,hbv⟩
  have HVV:=hid (HVM.out.on hbv)
  have HOV:=hid (HOB0.out.below hbv)
  have HRV:=hid (HROW0.out.on hbv)
  have HBV:=hid (HBQ.out.trans (hbv.mono HBQ.out.size))
  have HGV:Hid (g < wv.heap.size):=hid (Nat.lt_of_lt_of_le hgq hbv.size)
  clear hbv HPL f0 f1 f2 HVM HOB0 HROW0 HBQ hgq hgW
  obtain⟨f0,f1,f2⟩:=HVV.out.three
  have hcap:=HOV.out.cap
  obtain⟨al,_,rfl,_,_,_,_⟩:=HRV.out.at_ zcl_len (by omega) HLi.out
  go_upto_region 5 with fail
  go_quiet (fail)
  have hbd:Below wv.heap.size wv (wv.drewN nq):=Below.drewN (Below.refl _ _) nq
  have HVD:=hid (HVV.out.on hbd)
  have HOD:=hid (HOV.out.below hbd)
  have HRD:=hid (HRV.out.on hbd)
  have HBD:=hid (HBV.out.trans (hbd.mono HBV.out.size))
  have HGD:Hid (g < (wv.drewN nq).heap.size):=hid (Nat.lt_of_lt_of_le HGV.out hbd.size)
  clear f0 f1 f2 hbd
  generalize wv.drewN nq=wd at HVD HOD HRD HBD HGD ⊢
  obtain⟨f0,f1,f2⟩:=HVD.out.three
  cases rt with
  | false =>
   have HOB:=hid HOD.out
   have HROW:=hid HRD.out
   have HBB:=hid HBD.out
   have HGB:=hid HGD.out
   have HLEN:=hid HL1.out
   go_upto_region 8 with fail
   clear f0 f1 f2
   obtain⟨wb,rfl⟩:∃ wb,wb=wd:=⟨_,rfl⟩
   refine Rgs.region (by kernel_rfl) (by kernel_rfl) (fun(opn:Nat) (vl:Value) (wo:World)=>match opn with | 0=>vl=.slice (some ⟨g,0,none⟩) n c | 1=>vl=.int .i64 (i:Int) | 2=>vl=.slice (some al) n c0 | 3=>vl=.int .i64 (i:Int) | 4=>vl=.pointer (some (al.add (i*2))) | 5=>vl=.agg #[.int .i64 x.p,.int .i64 x.z] | 6=>vl=.slice (some al) n c0 | 7=>vl=.int .i64 (j:Int) | 8=>vl=.pointer (some (al.add (j*2))) | 9=>vl=.agg #[.int .i64 y.p,.int .i64 y.z] | 10=>TwoX wb.heap.size x y vl wo | 11=>vl=.int .i64 (T:Int) | 12=>vl=.pointer (some ⟨g,i*2,none⟩) | 13=>vl=.pointer (some ⟨g,i*2+1,none⟩) | 14=>vl=undef | _=>True) (fun live _ w'=>DoW wb ⟨g,i*2+1,none⟩ (.int .i64 (T:Int)) live w') DoW.start (Rgs.steps_of ?_) ?_
   ·refine⟨?_,?_,?_,?_,?_,?_,?_,?_,?_,?_,?_,?_,?_,?_,?_,trivial⟩ <;> intro a w1 live S E D C h0 hk hW
    ·have e5:a.eval (.tmp 5)=.slice (some ⟨g,0,none⟩) n c:=E 5 rfl
     exact Rgs.val rfl (Reg.wanted_free rfl) (.slice (some ⟨g,0,none⟩) n c) (by have c:=Reg.consts a;generalize a.eval=ρ at *;simp[execOp,go_sem,c.1,c.2,e5]) rfl (hW.upd (by decide))
    ·have e6:a.eval (.tmp 6)=.int .i64 (i:Int):=E 6 rfl
     exact Rgs.val rfl (Reg.wanted_free rfl) (.int .i64 (i:Int)) (by have c:=Reg.consts a;generalize a.eval=ρ at *;simp[execOp,go_sem,c.1,c.2,e6]) rfl (hW.upd (by decide))
    ·have e0:a.eval (.tmp 0)=.slice (some al) n c0:=E 0 rfl
     exact Rgs.val rfl (Reg.wanted_free rfl) (.slice (some al) n c0) (by have c:=Reg.consts a;generalize a.eval=ρ at *;simp[execOp,go_sem,c.1,c.2,e0]) rfl (hW.upd (by decide))
    ·have e6:a.eval (.tmp 6)=.int .i64 (i:Int):=E 6 rfl
     exact Rgs.val rfl (Reg.wanted_free rfl) (.int .i64 (i:Int)) (by have c:=Reg.consts a;generalize a.eval=ρ at *;simp[execOp,go_sem,c.1,c.2,e6]) rfl (hW.upd (by decide))
    ·have d2:a.eval (.tmp 28)=.slice (some al) n c0:=D 2 rfl _ _ rfl rfl
     have d3:a.eval (.tmp 29)=.int .i64 (i:Int):=D 3 rfl _ _ rfl rfl
     have i1:=HLT.out
     obtain⟨i1,i2,i3,i4⟩:=i1
     exact Rgs.val rfl (Reg.wanted_free rfl) (.pointer (some (al.add (i*2)))) (by have c:=Reg.consts a;generalize a.eval=ρ at *;simp[execOp,go_sem,c.1,c.2,d2,d3,i1,i2,i3,i4]) rfl (hW.upd (by decide))
    ·have d4:a.eval (.tmp 30)=.pointer (some (al.add (i*2))):=D 4 rfl _ _ rfl rfl
     have l10:=Reg.not_live C h0 (j:=10) rfl rfl
     have l11:=Reg.not_live C l10 (j:=11) rfl rfl
     have l14:=Reg.not_live C l11 (j:=14) rfl rfl
     have hb5:=hW.off l14
     obtain⟨am,y0,ea,_,hy0,c0x,ckx⟩:=(HROW.out.on hb5).at_ zcl_len (by omega) HLi.out
     injection ea with ea
     subst ea
     rw[HX.out] at hy0
     injection hy0 with hy0
     subst hy0
     have hc0:=c0x _ rfl
     have hc1:=ckx 1 _ (by omega) rfl
     exact Rgs.val rfl (Reg.wanted_free rfl) (.agg #[.int .i64 x.p,.int .i64 x.z]) (by have c:=Reg.consts a;generalize a.eval=ρ at *;simp[execOp,go_sem,c.1,c.2,d4,hc0,hc1]) rfl (hW.upd (by decide))
    ·have e0:a.eval (.tmp 0)=.slice (some al) n c0:=E 0 rfl
     exact Rgs.val rfl (Reg.wanted_free rfl) (.slice (some al) n c0) (by have c:=Reg.consts a;generalize a.eval=ρ at *;simp[execOp,go_sem,c.1,c.2,e0]) rfl (hW.upd (by decide))
    ·have e7:a.eval (.tmp 7)=.int .i64 (j:Int):=E 7 rfl
     exact Rgs.val rfl (Reg.wanted_free rfl) (.int .i64 (j:Int)) (by have c:=Reg.consts a;generalize a.eval=ρ at *;simp[execOp,go_sem,c.1,c.2,e7]) rfl (hW.upd (by decide))
    ·have d6:a.eval (.tmp 32)=.slice (some al) n c0:=D 6 rfl _ _ rfl rfl
     have d7:a.eval (.tmp 33)=.int .i64 (j:Int):=D 7 rfl _ _ rfl rfl
     have i1:=HLT.out
     obtain⟨i1,i2,i3,i4⟩:=i1
     exact Rgs.val rfl (Reg.wanted_free rfl) (.pointer (some (al.add (j*2)))) (by have c:=Reg.consts a;generalize a.eval=ρ at *;simp[execOp,go_sem,c.1,c.2,d6,d7,i1,i2,i3,i4]) rfl (hW.upd (by decide))
    ·have d8:a.eval (.tmp 34)=.pointer (some (al.add (j*2))):=D 8 rfl _ _ rfl rfl
     have l10:=Reg.not_live C h0 (j:=10) rfl rfl
     have l11:=Reg.not_live C l10 (j:=11) rfl rfl
     have l14:=Reg.not_live C l11 (j:=14) rfl rfl
     have hb5:=hW.off l14
     obtain⟨am,y0,ea,_,hy0,c0x,ckx⟩:=(HROW.out.on hb5).at_ zcl_len (by omega) HLj.out
     injection ea with ea
     subst ea
     rw[HY.out] at hy0
     injection hy0 with hy0
     subst hy0
     have hc0:=c0x _ rfl
     have hc1:=ckx 1 _ (by omega) rfl
     exact Rgs.val rfl (Reg.wanted_free rfl) (.agg #[.int .i64 y.p,.int .i64 y.z]) (by have c:=Reg.consts a;generalize a.eval=ρ at *;simp[execOp,go_sem,c.1,c.2,d8,hc0,hc1]) rfl (hW.upd (by decide))
    ·have d5:a.eval (.tmp 31)=.agg #[.int .i64 x.p,.int .i64 x.z]:=D 5 rfl _ _ rfl rfl
     have d9:a.eval (.tmp 35)=.agg #[.int .i64 y.p,.int .i64 y.z]:=D 9 rfl _ _ rfl rfl
     have l11:=Reg.not_live C h0 (j:=11) rfl rfl
     have l14:=Reg.not_live C l11 (j:=14) rfl rfl
     have hb5:=hW.off l14
     have hbl:=bl1 w1 (.cells #[.int .i64 x.p,.int .i64 x.z,.int .i64 y.p,.int .i64 y.z] 75)
     refine Rgs.grow rfl (Reg.wanted_free rfl) (.slice (some ⟨w1.heap.size,0,none⟩) 2 2) (w1.alloc (.cells #[.int .i64 x.p,.int .i64 x.z,.int .i64 y.p,.int .i64 y.z] 75)) (by have c:=Reg.consts a;generalize a.eval=ρ at *;simp[execOp,go_sem,c.1,c.2,d5,d9]) ⟨w1.heap.size,rfl,hb5.size,by simp,⟨rfl,rdV_new w1 _ _ _ rfl⟩⟩ (hW.more l14 hbl) ?_
     exact fun jq vq _ hv=>by
       revert hv
       match jq with
       | 10=>exact fun h=>h.on hbl
       | 0 | 1 | 2 | 3 | 4 | 5 | 6 | 7 | 8 | 9 | 11 | 12 | 13 | 14 | _+15=>exact fun h=>h
    ·obtain⟨hg,d10,hg0,hg1,hgr⟩:TwoX wb.heap.size x y (a.eval (.tmp 36)) w1:=D 10 rfl _ _ rfl rfl
     have l14:=Reg.not_live C h0 (j:=14) rfl rfl
     refine Rgs.call rfl (Reg.wanted_free rfl) 90 #[.slice (some ⟨hg,0,none⟩) 2 2] (by have c:=Reg.consts a;generalize a.eval=ρ at *;simp[execOp,go_sem,c.1,c.2,d10]) ?_
     refine(HLEN.out _ w1 hgr).mono ?_
     rintro e w5 ⟨rfl,hb5⟩
     exact⟨_,rfl,rfl,hW.more l14 hb5,fun jq vq _ hv=>by
       revert hv
       match jq with
       | 10=>exact fun h=>h.on hb5
       | 0 | 1 | 2 | 3 | 4 | 5 | 6 | 7 | 8 | 9 | 11 | 12 | 13 | 14 | _+15=>exact fun h=>h⟩
    ·have d0:a.eval (.tmp 26)=.slice (some ⟨g,0,none⟩) n c:=D 0 rfl _ _ rfl rfl
     have d1:a.eval (.tmp 27)=.int .i64 (i:Int):=D 1 rfl _ _ rfl rfl
     have i1:=HLT.out
     obtain⟨i1,i2,i3,i4⟩:=i1
     have ead:=mk_add (g) (i*2)
     exact Rgs.val rfl (Reg.wanted_free rfl) (.pointer (some ⟨g,i*2,none⟩)) (by have c:=Reg.consts a;generalize a.eval=ρ at *;simp[execOp,go_sem,c.1,c.2,d0,d1,i1,i2,i3,i4,ead]) rfl (hW.upd (by decide))
    ·have d12:a.eval (.tmp 38)=.pointer (some ⟨g,i*2,none⟩):=D 12 rfl _ _ rfl rfl
     exact Rgs.val rfl (Reg.wanted_free rfl) (.pointer (some ⟨g,i*2+1,none⟩)) (by have c:=Reg.consts a;generalize a.eval=ρ at *;simp[execOp,go_sem,c.1,c.2,d12]) rfl (hW.upd (by decide))
    ·have d11:a.eval (.tmp 37)=.int .i64 (T:Int):=D 11 rfl _ _ rfl rfl
     have d13:a.eval (.tmp 39)=.pointer (some ⟨g,i*2+1,none⟩):=D 13 rfl _ _ rfl rfl
     have hb5:=hW.off h0
     obtain⟨hc0,hfz⟩:=OwnB.cellK (HOB.out.below hb5) zcl_len (k:=1) HX.out (by omega) rfl
     refine Rgs.store rfl (Reg.wanted_free rfl) (w1.setCell ⟨g,i*2+1,none⟩ (.int .i64 (T:Int))) (by have c:=Reg.consts a;generalize a.eval=ρ at *;simp[execOp,go_sem,c.1,c.2,d11,d13,hc0,hfz]) rfl (hW.put h0) ?_
     exact fun jq vq _ hv=>by
       revert hv
       match jq with
       | 10=>exact fun h=>h.put (p:=⟨g,i*2+1,none⟩) HGB.out
       | 0 | 1 | 2 | 3 | 4 | 5 | 6 | 7 | 8 | 9 | 11 | 12 | 13 | 14 | _+15=>exact fun h=>h
   ·intro a w3 live hs hd E D' Hl hW
    rw[Rgs.act_ws a _ _ hs hd E [26,27,28,29,30,31,32,33,34,35,36,37,38,39] (by kernel_rfl)]
    simp only[List.foldl,List.setIfInBounds_toArray,List.set_cons_succ,List.set_cons_zero]
    obtain⟨wz,hbz,rfl⟩:=hW.on (Hl 14 (by decide))
    have hz1:=OwnB.putK (HOB.out.below hbz) zcl_len (k:=1) (y:=⟨x.p,(T:Int)⟩) HX.out (by omega) (v:=.int .i64 (T:Int)) rfl
    have HZ1:=hid hz1
    have HBZ:Hid (Below w.heap.size w (wz.setCell ⟨g,i*2+1,none⟩ (.int .i64 (T:Int)))):=hid ((HBB.out.trans (hbz.mono HBB.out.size)).setCell (p:=⟨g,i*2+1,none⟩) HGW.out _)
    clear E D' Hl hW hz1 hbz
    generalize a.eval=ρ
    clear a hs hd
    generalize wz.setCell ⟨g,i*2+1,none⟩ (.int .i64 (T:Int))=w4 at HZ1 HBZ ⊢
    have h2:(Z.set i ⟨x.p,(T:Int)⟩)[j]? = some y:=by rw[List.getElem?_set_ne (by omega)];exact HY.out
    obtain⟨k1,k2⟩:=OwnB.cellK HZ1.out zcl_len (k:=1) h2 (by omega) rfl
    have hz2:=OwnB.putK HZ1.out zcl_len (k:=1) (y:=⟨y.p,0⟩) h2 (by omega) (v:=.int .i64 0) rfl
    have HZ2:=hid hz2
    have HB2:Hid (Below w.heap.size w (w4.setCell ⟨g,j*2+1,none⟩ (.int .i64 0))):=hid (HBZ.out.setCell (p:=⟨g,j*2+1,none⟩) HGW.out _)
    obtain⟨i1,i2,i3,i4⟩:=HLT.out
    have ead:=mk_add g (j*2)
    clear hz2 h2
    go_upto_region 10 with fail
    clear k1 k2
    have hrw:RdR (w4.setCell ⟨g,j*2+1,none⟩ (.int .i64 0)) (w4.setCell ⟨g,j*2+1,none⟩ (.int .i64 0)).heap.size (some ⟨g,0,none⟩) n (mv (Z.map clp) i j false):=zmv_row (by have:=HZ2.out.rdb;rwa [HZM.out.2] at this)
    generalize w4.setCell ⟨g,j*2+1,none⟩ (.int .i64 0)=w9 at HZ2 HB2 hrw ⊢
    have HT:=hid (tidy_any (some ⟨g,0,none⟩) n c (mv (Z.map clp) i j false) w9 hrw HZ2.out.cap (by omega) HTK.out.2)
    clear hrw
    go_wp2_with fail
    refine HT.out.mono ?_
    rintro e w10 ⟨A10,c10,rfl,hr10,hc10,hb10,_⟩
    have HR10:=hid (And.intro hr10 (HB2.out.trans (hb10.mono HB2.out.size)))
    clear hr10 hb10 HT
    go_wp2_with fail
    go_ret
    exact HOUT.out _ _ ⟨A10,c10,rfl,HR10.out.1,hc10,HR10.out.2⟩
  | true =>
   have HLEN:=hid HL2.out
   go_upto_region 7 with fail
   go_quiet (fail)
   have hbd:Below wd.heap.size wd (wd.drewN nq):=Below.drewN (Below.refl _ _) nq
   have HOB:=hid (HOD.out.below hbd)
   have HROW:=hid (HRD.out.on hbd)
   have HBB:=hid (HBD.out.trans (hbd.mono HBD.out.size))
   have HGB:Hid (g < (wd.drewN nq).heap.size):=hid (Nat.lt_of_lt_of_le HGD.out hbd.size)
   clear f0 f1 f2 hbd
   generalize wd.drewN nq=wb at HOB HROW HBB HGB ⊢
   go_upto_region 8 with fail
   refine Rgs.region (by kernel_rfl) (by kernel_rfl) (fun(opn:Nat) (vl:Value) (wo:World)=>match opn with | 0=>vl=.slice (some ⟨g,0,none⟩) n c | 1=>vl=.int .i64 (j:Int) | 2=>vl=.slice (some al) n c0 | 3=>vl=.int .i64 (j:Int) | 4=>vl=.pointer (some (al.add (j*2))) | 5=>vl=.agg #[.int .i64 y.p,.int .i64 y.z] | 6=>vl=.slice (some al) n c0 | 7=>vl=.int .i64 (i:Int) | 8=>vl=.pointer (some (al.add (i*2))) | 9=>vl=.agg #[.int .i64 x.p,.int .i64 x.z] | 10=>TwoX wb.heap.size y x vl wo | 11=>vl=.int .i64 (T:Int) | 12=>vl=.pointer (some ⟨g,j*2,none⟩) | 13=>vl=.pointer (some ⟨g,j*2+1,none⟩) | 14=>vl=undef | _=>True) (fun live _ w'=>DoW wb ⟨g,j*2+1,none⟩ (.int .i64 (T:Int)) live w') DoW.start (Rgs.steps_of ?_) ?_
   ·refine⟨?_,?_,?_,?_,?_,?_,?_,?_,?_,?_,?_,?_,?_,?_,?_,trivial⟩ <;> intro a w1 live S E D C h0 hk hW
    ·have e5:a.eval (.tmp 5)=.slice (some ⟨g,0,none⟩) n c:=E 5 rfl
     exact Rgs.val rfl (Reg.wanted_free rfl) (.slice (some ⟨g,0,none⟩) n c) (by have c:=Reg.consts a;generalize a.eval=ρ at *;simp[execOp,go_sem,c.1,c.2,e5]) rfl (hW.upd (by decide))
    ·have e6:a.eval (.tmp 6)=.int .i64 (j:Int):=E 6 rfl
     exact Rgs.val rfl (Reg.wanted_free rfl) (.int .i64 (j:Int)) (by have c:=Reg.consts a;generalize a.eval=ρ at *;simp[execOp,go_sem,c.1,c.2,e6]) rfl (hW.upd (by decide))
    ·have e0:a.eval (.tmp 0)=.slice (some al) n c0:=E 0 rfl
     exact Rgs.val rfl (Reg.wanted_free rfl) (.slice (some al) n c0) (by have c:=Reg.consts a;generalize a.eval=ρ at *;simp[execOp,go_sem,c.1,c.2,e0]) rfl (hW.upd (by decide))
    ·have e6:a.eval (.tmp 6)=.int .i64 (j:Int):=E 6 rfl
     exact Rgs.val rfl (Reg.wanted_free rfl) (.int .i64 (j:Int)) (by have c:=Reg.consts a;generalize a.eval=ρ at *;simp[execOp,go_sem,c.1,c.2,e6]) rfl (hW.upd (by decide))
    ·have d2:a.eval (.tmp 28)=.slice (some al) n c0:=D 2 rfl _ _ rfl rfl
     have d3:a.eval (.tmp 29)=.int .i64 (j:Int):=D 3 rfl _ _ rfl rfl
     have i1:=HLT.out
     obtain⟨i1,i2,i3,i4⟩:=i1
     exact Rgs.val rfl (Reg.wanted_free rfl) (.pointer (some (al.add (j*2)))) (by have c:=Reg.consts a;generalize a.eval=ρ at *;simp[execOp,go_sem,c.1,c.2,d2,d3,i1,i2,i3,i4]) rfl (hW.upd (by decide))
    ·have d4:a.eval (.tmp 30)=.pointer (some (al.add (j*2))):=D 4 rfl _ _ rfl rfl
     have l10:=Reg.not_live C h0 (j:=10) rfl rfl
     have l11:=Reg.not_live C l10 (j:=11) rfl rfl
     have l14:=Reg.not_live C l11 (j:=14) rfl rfl
     have hb5:=hW.off l14
     obtain⟨am,y0,ea,_,hy0,c0x,ckx⟩:=(HROW.out.on hb5).at_ zcl_len (by omega) HLj.out
     injection ea with ea
     subst ea
     rw[HY.out] at hy0
     injection hy0 with hy0
     subst hy0
     have hc0:=c0x _ rfl
     have hc1:=ckx 1 _ (by omega) rfl
     exact Rgs.val rfl (Reg.wanted_free rfl) (.agg #[.int .i64 y.p,.int .i64 y.z]) (by have c:=Reg.consts a;generalize a.eval=ρ at *;simp[execOp,go_sem,c.1,c.2,d4,hc0,hc1]) rfl (hW.upd (by decide))
    ·have e0:a.eval (.tmp 0)=.slice (some al) n c0:=E 0 rfl
     exact Rgs.val rfl (Reg.wanted_free rfl) (.slice (some al) n c0) (by have c:=Reg.consts a;generalize a.eval=ρ at *;simp[execOp,go_sem,c.1,c.2,e0]) rfl (hW.upd (by decide))
    ·have e7:a.eval (.tmp 7)=.int .i64 (i:Int):=E 7 rfl
     exact Rgs.val rfl (Reg.wanted_free rfl) (.int .i64 (i:Int)) (by have c:=Reg.consts a;generalize a.eval=ρ at *;simp[execOp,go_sem,c.1,c.2,e7]) rfl (hW.upd (by decide))
    ·have d6:a.eval (.tmp 32)=.slice (some al) n c0:=D 6 rfl _ _ rfl rfl
     have d7:a.eval (.tmp 33)=.int .i64 (i:Int):=D 7 rfl _ _ rfl rfl
     have i1:=HLT.out
     obtain⟨i1,i2,i3,i4⟩:=i1
     exact Rgs.val rfl (Reg.wanted_free rfl) (.pointer (some (al.add (i*2)))) (by have c:=Reg.consts a;generalize a.eval=ρ at *;simp[execOp,go_sem,c.1,c.2,d6,d7,i1,i2,i3,i4]) rfl (hW.upd (by decide))
    ·have d8:a.eval (.tmp 34)=.pointer (some (al.add (i*2))):=D 8 rfl _ _ rfl rfl
     have l10:=Reg.not_live C h0 (j:=10) rfl rfl
     have l11:=Reg.not_live C l10 (j:=11) rfl rfl
     have l14:=Reg.not_live C l11 (j:=14) rfl rfl
     have hb5:=hW.off l14
     obtain⟨am,y0,ea,_,hy0,c0x,ckx⟩:=(HROW.out.on hb5).at_ zcl_len (by omega) HLi.out
     injection ea with ea
     subst ea
     rw[HX.out] at hy0
     injection hy0 with hy0
     subst hy0
     have hc0:=c0x _ rfl
     have hc1:=ckx 1 _ (by omega) rfl
     exact Rgs.val rfl (Reg.wanted_free rfl) (.agg #[.int .i64 x.p,.int .i64 x.z]) (by have c:=Reg.consts a;generalize a.eval=ρ at *;simp[execOp,go_sem,c.1,c.2,d8,hc0,hc1]) rfl (hW.upd (by decide))
    ·have d5:a.eval (.tmp 31)=.agg #[.int .i64 y.p,.int .i64 y.z]:=D 5 rfl _ _ rfl rfl
     have d9:a.eval (.tmp 35)=.agg #[.int .i64 x.p,.int .i64 x.z]:=D 9 rfl _ _ rfl rfl
     have l11:=Reg.not_live C h0 (j:=11) rfl rfl
     have l14:=Reg.not_live C l11 (j:=14) rfl rfl
     have hb5:=hW.off l14
     have hbl:=bl1 w1 (.cells #[.int .i64 y.p,.int .i64 y.z,.int .i64 x.p,.int .i64 x.z] 75)
     refine Rgs.grow rfl (Reg.wanted_free rfl) (.slice (some ⟨w1.heap.size,0,none⟩) 2 2) (w1.alloc (.cells #[.int .i64 y.p,.int .i64 y.z,.int .i64 x.p,.int .i64 x.z] 75)) (by have c:=Reg.consts a;generalize a.eval=ρ at *;simp[execOp,go_sem,c.1,c.2,d5,d9]) ⟨w1.heap.size,rfl,hb5.size,by simp,⟨rfl,rdV_new w1 _ _ _ rfl⟩⟩ (hW.more l14 hbl) ?_
     exact fun jq vq _ hv=>by
       revert hv
       match jq with
       | 10=>exact fun h=>h.on hbl
       | 0 | 1 | 2 | 3 | 4 | 5 | 6 | 7 | 8 | 9 | 11 | 12 | 13 | 14 | _+15=>exact fun h=>h
    ·obtain⟨hg,d10,hg0,hg1,hgr⟩:TwoX wb.heap.size y x (a.eval (.tmp 36)) w1:=D 10 rfl _ _ rfl rfl
     have l14:=Reg.not_live C h0 (j:=14) rfl rfl
     refine Rgs.call rfl (Reg.wanted_free rfl) 90 #[.slice (some ⟨hg,0,none⟩) 2 2] (by have c:=Reg.consts a;generalize a.eval=ρ at *;simp[execOp,go_sem,c.1,c.2,d10]) ?_
     refine(HLEN.out _ w1 hgr).mono ?_
     rintro e w5 ⟨rfl,hb5⟩
     exact⟨_,rfl,rfl,hW.more l14 hb5,fun jq vq _ hv=>by
       revert hv
       match jq with
       | 10=>exact fun h=>h.on hb5
       | 0 | 1 | 2 | 3 | 4 | 5 | 6 | 7 | 8 | 9 | 11 | 12 | 13 | 14 | _+15=>exact fun h=>h⟩
    ·have d0:a.eval (.tmp 26)=.slice (some ⟨g,0,none⟩) n c:=D 0 rfl _ _ rfl rfl
     have d1:a.eval (.tmp 27)=.int .i64 (j:Int):=D 1 rfl _ _ rfl rfl
     have i1:=HLT.out
     obtain⟨i1,i2,i3,i4⟩:=i1
     have ead:=mk_add (g) (j*2)
     exact Rgs.val rfl (Reg.wanted_free rfl) (.pointer (some ⟨g,j*2,none⟩)) (by have c:=Reg.consts a;generalize a.eval=ρ at *;simp[execOp,go_sem,c.1,c.2,d0,d1,i1,i2,i3,i4,ead]) rfl (hW.upd (by decide))
    ·have d12:a.eval (.tmp 38)=.pointer (some ⟨g,j*2,none⟩):=D 12 rfl _ _ rfl rfl
     exact Rgs.val rfl (Reg.wanted_free rfl) (.pointer (some ⟨g,j*2+1,none⟩)) (by have c:=Reg.consts a;generalize a.eval=ρ at *;simp[execOp,go_sem,c.1,c.2,d12]) rfl (hW.upd (by decide))
    ·have d11:a.eval (.tmp 37)=.int .i64 (T:Int):=D 11 rfl _ _ rfl rfl
     have d13:a.eval (.tmp 39)=.pointer (some ⟨g,j*2+1,none⟩):=D 13 rfl _ _ rfl rfl
     have hb5:=hW.off h0
     obtain⟨hc0,hfz⟩:=OwnB.cellK (HOB.out.below hb5) zcl_len (k:=1) HY.out (by omega) rfl
     refine Rgs.store rfl (Reg.wanted_free rfl) (w1.setCell ⟨g,j*2+1,none⟩ (.int .i64 (T:Int))) (by have c:=Reg.consts a;generalize a.eval=ρ at *;simp[execOp,go_sem,c.1,c.2,d11,d13,hc0,hfz]) rfl (hW.put h0) ?_
     exact fun jq vq _ hv=>by
       revert hv
       match jq with
       | 10=>exact fun h=>h.put (p:=⟨g,j*2+1,none⟩) HGB.out
       | 0 | 1 | 2 | 3 | 4 | 5 | 6 | 7 | 8 | 9 | 11 | 12 | 13 | 14 | _+15=>exact fun h=>h
   ·intro a w3 live hs hd E D' Hl hW
    rw[Rgs.act_ws a _ _ hs hd E [26,27,28,29,30,31,32,33,34,35,36,37,38,39] (by kernel_rfl)]
    simp only[List.foldl,List.setIfInBounds_toArray,List.set_cons_succ,List.set_cons_zero]
    obtain⟨wz,hbz,rfl⟩:=hW.on (Hl 14 (by decide))
    have hz1:=OwnB.putK (HOB.out.below hbz) zcl_len (k:=1) (y:=⟨y.p,(T:Int)⟩) HY.out (by omega) (v:=.int .i64 (T:Int)) rfl
    have HZ1:=hid hz1
    have HBZ:Hid (Below w.heap.size w (wz.setCell ⟨g,j*2+1,none⟩ (.int .i64 (T:Int)))):=hid ((HBB.out.trans (hbz.mono HBB.out.size)).setCell (p:=⟨g,j*2+1,none⟩) HGW.out _)
    clear E D' Hl hW hz1 hbz
    generalize a.eval=ρ
    clear a hs hd
    generalize wz.setCell ⟨g,j*2+1,none⟩ (.int .i64 (T:Int))=w4 at HZ1 HBZ ⊢
    have h2:(Z.set j ⟨y.p,(T:Int)⟩)[i]? = some x:=by rw[List.getElem?_set_ne (by omega)];exact HX.out
    obtain⟨k1,k2⟩:=OwnB.cellK HZ1.out zcl_len (k:=1) h2 (by omega) rfl
    have hz2:=OwnB.putK HZ1.out zcl_len (k:=1) (y:=⟨x.p,0⟩) h2 (by omega) (v:=.int .i64 0) rfl
    have HZ2:=hid hz2
    have HB2:Hid (Below w.heap.size w (w4.setCell ⟨g,i*2+1,none⟩ (.int .i64 0))):=hid (HBZ.out.setCell (p:=⟨g,i*2+1,none⟩) HGW.out _)
    obtain⟨i1,i2,i3,i4⟩:=HLT.out
    have ead:=mk_add g (i*2)
    clear hz2 h2
    go_upto_region 10 with fail
    clear k1 k2
    have hrw:RdR (w4.setCell ⟨g,i*2+1,none⟩ (.int .i64 0)) (w4.setCell ⟨g,i*2+1,none⟩ (.int .i64 0)).heap.size (some ⟨g,0,none⟩) n (mv (Z.map clp) i j true):=zmv_row (by have:=HZ2.out.rdb;rwa [HZM.out.1] at this)
    generalize w4.setCell ⟨g,i*2+1,none⟩ (.int .i64 0)=w9 at HZ2 HB2 hrw ⊢
    have HT:=hid (tidy_any (some ⟨g,0,none⟩) n c (mv (Z.map clp) i j true) w9 hrw HZ2.out.cap (by omega) HTK.out.1)
    clear hrw
    go_wp2_with fail
    refine HT.out.mono ?_
    rintro e w10 ⟨A10,c10,rfl,hr10,hc10,hb10,_⟩
    have HR10:=hid (And.intro hr10 (HB2.out.trans (hb10.mono HB2.out.size)))
    clear hr10 hb10 HT
    go_wp2_with fail
    go_ret
    exact HOUT.out _ _ ⟨A10,c10,rfl,HR10.out.1,hc10,HR10.out.2⟩
theorem do_any (A:Option Addr) (n c0:Nat) (L:List Rn) (I J:Int) (rt:Bool) (w:World) (h:RdR w w.heap.size A n L) (hc:n≤c0) (hn:n≤1048576) (ht:ticks L≤1099511627776) :
  Calls Tryz.prog 86 #[.slice A n c0,.agg #[.int .i64 I,.int .i64 J,.bool rt]] w (RowQ (doZ L I J rt) w):=by
 have hlen:=h.len
 refine(mdo_any A n c0 (L.map zOf) I J rt w h.z hc hn (by rw[clp_zOf];exact ht) (fun _ k r hr _ _=>?_)).mono ?_
 ·rw[List.getElem?_map] at hr
  cases hL:L[k]? with
  | none=>rw[hL] at hr;cases hr
  | some x =>
   rw[hL] at hr
   injection hr with hr
   subst hr
   show (0:Int)≤(x.n:Int)
   omega
 ·rintro e w' ⟨h1,h2⟩
  rw[clp_zOf] at h1
  unfold doZ
  by_cases hp:0≤I∧I < J∧J < (L.length:Int)
  ·rw[if_pos hp]
   exact h1 (by unfold plcZ;rw[← hlen];simp[hp.1,hp.2.1,hp.2.2])
  ·rw[if_neg hp]
   obtain⟨A',c',e1,e2,e3,e4⟩:=h2 (by unfold plcZ;rw[← hlen,Bool.eq_false_iff];simpa using hp)
   subst hlen
   exact⟨A',c',e1,zmv_row e2,e3,e4⟩
theorem RdV.other {w:World} {B:Nat} {A:Option Addr} {l:List Value} (h:RdV w B A l) (p:Addr) (v:Value) (hp:∀ b,obk A=some b→b≠p.block):RdV (w.setCell p v) B A l:=fun hl=>by
 obtain⟨ad,e,hb,hc⟩:=h hl
 refine⟨ad,e,hb,fun j u hj=>?_⟩
 rw[World.cell?_of_block (Below.heap_setCell w p v (ad.add j).block (by rw[add_block];exact hp _ (by rw[e];rfl)))]
 exact hc j u hj
theorem RdI.other {w:World} {B n:Nat} {A:Option Addr} {l:List Int} (h:RdI w B A n l) (p:Addr) (v:Value) (hp:∀ b,obk A=some b→b≠p.block):RdI (w.setCell p v) B A n l:=⟨h.len,h.rd.other p v hp⟩
def mR (m:Nat→Nat→Bool) (R:List Nat) (i a j x y:Nat):Bool:=m x y || decide (x∈R.take i) || (decide (x=a) && decide (y < j))
def freeF (P:List Pt) (C:List Ch) (a b:Int):Bool:=(decide (a=-1) || inP P.length a) && (decide (b=-1) || inP P.length b) && (decide (a=-1) || decide (b=-1) || !depF P C a.toNat b.toNat)
set_option maxRecDepth 100000 in
set_option maxHeartbeats 1600000 in
theorem free_any (A1 A2 A3:Option Addr) (n1 n2 n3 c1 c2 c3:Nat) (P:List PtV) (C:List ChV) (a b:Int) (w:World) (h:CfW w w.heap.size A1 A2 n1 n2 P C) (q1:n1≤1048576) (q2:n2≤1048576) :
  Calls Tryz.prog 154 #[.agg #[.slice A1 n1 c1,.slice A2 n2 c2,.slice A3 n3 c3],.int .i64 a,.int .i64 b] w (Ans (.bool (freeF (P.map ptOf) (C.map chOf) a b)) w):=by
 have hlen:P.length=n1:=h.p.len
 obtain⟨v,hv⟩:∃ v,v=freeF (P.map ptOf) (C.map chOf) a b:=⟨_,rfl⟩
 rw[← hv]
 unfold freeF at hv
 rw[List.length_map,hlen] at hv
 have HV:=hid hv
 have hbw:=bl1 w (.cells #[.slice A1 n1 c1,.slice A2 n2 c2,.slice A3 n3 c3] 31)
 have hbox:=box_vec w (.slice A1 n1 c1) (.slice A2 n2 c2) (.slice A3 n3 c3) 31
 have hCf:=h.on hbw
 have hgsz:w.heap.size < (w.alloc (.cells #[.slice A1 n1 c1,.slice A2 n2 c2,.slice A3 n3 c3] 31)).heap.size:=by simp
 have HB0:=hid hbw
 have HHAS:=hid fun(p:Int) (w':World)=>has_any A1 A2 A3 n1 n2 n3 c1 c2 c3 p w'
 clear h hbw hlen hv
 obtain⟨m0,m1,m2⟩:=hbox.three
 go_enter Tryz.func154,Tryz.ntmps154
 go_upto_region 1 with fail
 generalize w.alloc (.cells #[.slice A1 n1 c1,.slice A2 n2 c2,.slice A3 n3 c3] 31)=W at HB0 hCf hbox m0 m1 m2 hgsz ⊢
 obtain⟨gb,hgb⟩:∃ gb,gb=w.heap.size:=⟨_,rfl⟩
 rw[← hgb] at hbox m0 m1 m2 hgsz ⊢
 have HBOX:=hid hbox
 have HCF:=hid hCf
 have HGZ:=hid hgsz
 clear hgb hbox hCf hgsz
 by_cases ha:a=-1
 ·have t1:(a == -1)=true:=by simp[ha]
  by_cases hb:b=-1
  ·have t2:(b == -1)=true:=by simp[hb]
   have hvt:v=true:=by rw[HV.out];simp[ha,hb]
   subst hvt
   clear ha hb
   go_wp2_with fail
   go_ret
   exact⟨rfl,HB0.out⟩
  ·have t2:(b == -1)=false:=by simp[hb]
   have hvt:v=inP n1 b:=by rw[HV.out];simp[ha,hb]
   have HF:=hid (HHAS.out b W)
   rw[← hvt] at HF
   clear ha hb hvt
   go_wp2_with fail
   refine HF.out.mono ?_
   rintro e w2 ⟨rfl,hb2⟩
   go_wp2_with fail
   go_ret
   exact⟨rfl,HB0.out.trans (hb2.mono HB0.out.size)⟩
 ·have t1:(a == -1)=false:=by simp[ha]
  by_cases hb:b=-1
  ·have t2:(b == -1)=true:=by simp[hb]
   have hvt:v=inP n1 a:=by rw[HV.out];simp[ha,hb]
   have HF:=hid (HHAS.out a W)
   rw[← hvt] at HF
   clear ha hb hvt
   go_wp2_with fail
   refine HF.out.mono ?_
   rintro e w2 ⟨rfl,hb2⟩
   go_wp2_with fail
   go_ret
   exact⟨rfl,HB0.out.trans (hb2.mono HB0.out.size)⟩
  ·have t2:(b == -1)=false:=by simp[hb]
   have hvt:v=(inP n1 a && inP n1 b && !depF (P.map ptOf) (C.map chOf) a.toNat b.toNat):=by rw[HV.out];simp[ha,hb]
   have HVT:=hid hvt
   have HF:=hid (HHAS.out a W)
   clear ha hb hvt
   cases hia:inP n1 a with
   | false =>
    rw[hia] at HF
    have hvf:v=false:=by rw[HVT.out,hia];rfl
    subst hvf
    clear hia
    go_wp2_with fail
    refine HF.out.mono ?_
    rintro e w2 ⟨rfl,hb2⟩
    go_wp2_with fail
    go_ret
    exact⟨rfl,HB0.out.trans (hb2.mono HB0.out.size)⟩
   | true =>
    rw[hia] at HF
    have HIA:=hid hia
    clear hia
    go_wp2_with fail
    refine HF.out.mono ?_
    rintro e w2 ⟨rfl,hb2⟩
    obtain⟨m0,m1,m2⟩:=(HBOX.out.below hb2 HGZ.out).three
    have HF:=hid (HHAS.out b w2)
    have HB2:=hid hb2
    clear hb2
    cases hib:inP n1 b with
    | false =>
     rw[hib] at HF
     have hvf:v=false:=by rw[HVT.out,hib,Bool.and_false,Bool.false_and]
     subst hvf
     clear hib
     go_wp2_with fail
     refine HF.out.mono ?_
     rintro e w3 ⟨rfl,hb3⟩
     have hb4:=HB2.out.trans (hb3.mono HB2.out.size)
     go_wp2_with fail
     go_ret
     exact⟨rfl,HB0.out.trans (hb4.mono HB0.out.size)⟩
    | true =>
     rw[hib] at HF
     have g1:=inP_iff.1 HIA.out
     have g2:=inP_iff.1 hib
     have hvf:v=!depF (P.map ptOf) (C.map chOf) a.toNat b.toNat:=by rw[HVT.out,HIA.out,hib];rfl
     obtain⟨x,rfl⟩:=Int.eq_ofNat_of_zero_le g1.1
     obtain⟨y,rfl⟩:=Int.eq_ofNat_of_zero_le g2.1
     rw[Int.toNat_natCast,Int.toNat_natCast] at hvf
     have HG1:=hid g1
     have HG2:=hid g2
     have HVF:=hid hvf
     clear hib g1 g2 hvf
     go_wp2_with fail
     refine HF.out.mono ?_
     rintro e w3 ⟨rfl,hb3⟩
     have hb4:=HB2.out.trans (hb3.mono HB2.out.size)
     obtain⟨m0,m1,m2⟩:=(HBOX.out.below hb4 HGZ.out).three
     have HD:=hid (depend_any A1 A2 A3 n1 n2 n3 c1 c2 c3 P C x y w3 (HCF.out.on hb4) q1 q2 (by have:=HG1.out;omega) (by have:=HG2.out;omega))
     generalize depF (P.map ptOf) (C.map chOf) x y=q at HD HVF
     have hvq:=HVF.out
     subst hvq
     clear hb3
     go_wp2_with fail
     refine HD.out.mono ?_
     rintro e w5 ⟨rfl,hb5⟩
     have hb6:=hb4.trans (hb5.mono hb4.size)
     go_wp2_with fail
     go_ret
     exact⟨rfl,HB0.out.trans (hb6.mono HB0.out.size)⟩
set_option maxHeartbeats 400000 in
theorem mhas_any (A1 A2 A3:Option Addr) (n1 n2 n3 c1 c2 c3:Nat) (p:Int) (w:World):Calls Tryz.prog 153 #[.agg #[.slice A1 n1 c1,.slice A2 n2 c2,.slice A3 n3 c3],.int .i64 p] w (Ans (.bool (inP n1 p)) w):=by
 go_enter Tryz.func153,Tryz.ntmps153
 go_wp2
 all_goals
  go_ret
  refine Ans.mk (congrArg Value.bool ?_) (bl1 _ _)
  rw[Bool.eq_iff_iff,inP_iff]
  simp only[decide_eq_true_eq,Bool.false_eq_true,iff_false] at *
  omega
def tieB (n:Nat) (P:List PtV) (C:List ChV) (p q:Int):Bool:=inP n p && (inP n q && !freeF (P.map ptOf) (C.map chOf) p q)
theorem tieB_way {P:List PtV} {C:List ChV} {n:Nat} (hn:P.length=n) {p q:Int} (h:q≠p):tieB n P C p q=wayP (depW n (depF (P.map ptOf) (C.map chOf))) p q:=by
 rw[wayP_ne h]
 unfold tieB depW
 rw[decide_eq_false (show ¬ p=q from fun e=>h e.symm),Bool.false_or]
 cases h1:inP n p with
 | false=>simp
 | true =>
  cases h2:inP n q with
  | false=>simp
  | true =>
   have e1:=inP_iff.1 h1
   have e2:=inP_iff.1 h2
   unfold freeF
   rw[List.length_map,hn,h1,h2,decide_eq_false (show ¬ p=-1 by omega),decide_eq_false (show ¬ q=-1 by omega),decide_eq_true (show p≠-1 by omega),decide_eq_true (show q≠-1 by omega),depF_sym _ _ q.toNat p.toNat]
   simp
set_option maxRecDepth 100000 in
set_option maxHeartbeats 4000000 in
theorem tied_any (A1 A2 A3 A:Option Addr) (n1 n2 n3 n c1 c2 c3 c:Nat) (P:List PtV) (C:List ChV) (ps:List Int) (p:Int) (w:World) (hCf:CfW w w.heap.size A1 A2 n1 n2 P C) (h:RdP w w.heap.size A n ps)
  (q1:n1≤1048576) (q2:n2≤1048576) (hc:n≤c) (hn:n≤1048576) :
  Calls Tryz.prog 124 #[.agg #[.slice A1 n1 c1,.slice A2 n2 c2,.slice A3 n3 c3],.int .i64 p,.slice A n c] w (Ans (.bool (ps.any (tieB n1 P C p))) w):=by
 have hb0:=bl1 w (.cells #[.slice A1 n1 c1,.slice A2 n2 c2,.slice A3 n3 c3] 31)
 have hbox:=box_vec w (.slice A1 n1 c1) (.slice A2 n2 c2) (.slice A3 n3 c3) 31
 have HB0:=hid hb0
 have HCF:=hid (hCf.on hb0)
 have HP:=hid (h.on hb0)
 have HLN:=hid h.len
 clear hCf h hb0
 obtain⟨v,hv⟩:∃ v,v=ps.any (tieB n1 P C p):=⟨_,rfl⟩
 rw[← hv]
 have HV:=hid hv
 clear hv
 go_enter Tryz.func124,Tryz.ntmps124
 go_upto_region 1 with fail
 generalize w.alloc (.cells #[.slice A1 n1 c1,.slice A2 n2 c2,.slice A3 n3 c3] 31)=W at HB0 HCF HP hbox ⊢
 obtain⟨gc,hgc⟩:∃ gc,gc=w.heap.size:=⟨_,rfl⟩
 rw[← hgc] at hbox ⊢
 clear hgc
 have HBX:=hid hbox
 clear hbox
 go_wp2_with fail
 go_loopw [8,11] (fun _ s wr=>∃ k:Nat,k≤n∧s=.int .i64 k∧(ps.take k).any (tieB n1 P C p)=false∧Below W.heap.size W wr) (fun _ s _=>n - (intOf s).toNat)
 case atStart=>exact⟨0,by omega,rfl,rfl,Below.refl _ _⟩
 case round =>
  obtain⟨k,hk,rfl,hany,hb⟩:=hrel
  have HANY:=hid hany
  clear hany
  by_cases hkn:k < n
  ·have hkni:(k:Int) < (n:Int):=by omega
   obtain⟨am,q,z,rfl,hab,hq,c0,c1'⟩:=(HP.out.on hb).at_ k hkn
   have hmo:(ps.take (k+1)).any (tieB n1 P C p)=((ps.take k).any (tieB n1 P C p) || tieB n1 P C p q):=any_more (tieB n1 P C p) hq
   have hme:tieB n1 P C p q=true→v=true:=fun h=>by rw[HV.out];exact any_mem (tieB n1 P C p) hq h
   have HMO:=hid hmo
   have HME:=hid hme
   have hbl:=bl1 wr (.cells #[.int .i64 q,.int .i64 z] 75)
   have g0:(wr.alloc (.cells #[.int .i64 q,.int .i64 z] 75)).cell? ⟨wr.heap.size,0,none⟩=some (.int .i64 q):=World.cell?_alloc_mark _ _ _ _ _
   have hbb:=hb.trans (hbl.mono hb.size)
   have HBB:=hid hbb
   have HB1:=hid (HB0.out.trans (hbb.mono HB0.out.size))
   obtain⟨m0,m1,m2⟩:=(HBX.out.on hbb).three
   clear hmo hme hbl hq hb hbb
   go_upto_region 4 with fail
   generalize wr.alloc (.cells #[.int .i64 q,.int .i64 z] 75)=W2 at g0 HB1 HBB m0 m1 m2 ⊢
   generalize wr.heap.size=gx at g0 ⊢
   have hgx:gx < W2.heap.size:=World.block_lt_of_cell? _ _ g0
   have HGX:=hid hgx
   have HG0:=hid g0
   clear hgx
   clear c0 c1' hab
   have HH1:=hid fun W=>mhas_any A1 A2 A3 n1 n2 n3 c1 c2 c3 p W
   have HH2:=hid fun W=>mhas_any A1 A2 A3 n1 n2 n3 c1 c2 c3 q W
   have HFR:=hid fun W (hb:Below W2.heap.size W2 W)=>free_any A1 A2 A3 n1 n2 n3 c1 c2 c3 P C p q W ((HCF.out.on HBB.out).on hb) q1 q2
   have htb:tieB n1 P C p q=(inP n1 p && (inP n1 q && !freeF (P.map ptOf) (C.map chOf) p q)):=rfl
   rw[htb] at HMO HME
   clear htb
   generalize inP n1 p=b1 at HH1 HMO HME
   generalize inP n1 q=b2 at HH2 HMO HME
   generalize freeF (P.map ptOf) (C.map chOf) p q=f at HFR HMO HME
   cases b1 with
   | false =>
    have HN:Hid ((ps.take (k+1)).any (tieB n1 P C p)=false):=hid (by rw[HMO.out,HANY.out];rfl)
    clear HMO HME
    go_wp2_with fail
    refine(HH1.out W2).mono ?_
    rintro e w5 ⟨rfl,hb5⟩
    have HS5:=hid hb5
    clear hb5 m0 m1 m2 g0
    go_wp2_with fail
    go_roundw
    case rel=>exact⟨k+1,by omega,by go_num,HN.out,HBB.out.trans (HS5.out.mono HBB.out.size)⟩
    case measure=>simp[intOf];omega
   | true =>
    cases b2 with
    | false =>
     have HN:Hid ((ps.take (k+1)).any (tieB n1 P C p)=false):=hid (by rw[HMO.out,HANY.out];rfl)
     clear HMO HME
     go_wp2_with fail
     refine(HH1.out W2).mono ?_
     rintro e w5 ⟨rfl,hb5⟩
     have HS5:=hid hb5
     clear hb5 m0 m1 m2 g0
     obtain⟨m0,m1,m2⟩:=(HBX.out.on (HBB.out.trans (HS5.out.mono HBB.out.size))).three
     have g0:=(HS5.out.cell (p:=⟨gx,0,none⟩) HGX.out).trans HG0.out
     go_wp2_with fail
     refine(HH2.out w5).mono ?_
     rintro e w6 ⟨rfl,hb6⟩
     have HS6:=hid (HS5.out.trans (hb6.mono HS5.out.size))
     clear hb6 m0 m1 m2 g0
     go_wp2_with fail
     go_roundw
     case rel=>exact⟨k+1,by omega,by go_num,HN.out,HBB.out.trans (HS6.out.mono HBB.out.size)⟩
     case measure=>simp[intOf];omega
    | true =>
     cases f with
     | true =>
      have HN:Hid ((ps.take (k+1)).any (tieB n1 P C p)=false):=hid (by rw[HMO.out,HANY.out];rfl)
      clear HMO HME
      go_wp2_with fail
      refine(HH1.out W2).mono ?_
      rintro e w5 ⟨rfl,hb5⟩
      have HS5:=hid hb5
      clear hb5 m0 m1 m2 g0
      obtain⟨m0,m1,m2⟩:=(HBX.out.on (HBB.out.trans (HS5.out.mono HBB.out.size))).three
      have g0:=(HS5.out.cell (p:=⟨gx,0,none⟩) HGX.out).trans HG0.out
      go_wp2_with fail
      refine(HH2.out w5).mono ?_
      rintro e w6 ⟨rfl,hb6⟩
      have HS6:=hid (HS5.out.trans (hb6.mono HS5.out.size))
      clear hb6 m0 m1 m2 g0
      obtain⟨m0,m1,m2⟩:=(HBX.out.on (HBB.out.trans (HS6.out.mono HBB.out.size))).three
      have g0:=(HS6.out.cell (p:=⟨gx,0,none⟩) HGX.out).trans HG0.out
      go_wp2_with fail
      refine(HFR.out w6 HS6.out).mono ?_
      rintro e w7 ⟨rfl,hb7⟩
      have HS7:=hid (HS6.out.trans (hb7.mono HS6.out.size))
      clear hb7 m0 m1 m2 g0
      go_wp2_with fail
      go_roundw
      case rel=>exact⟨k+1,by omega,by go_num,HN.out,HBB.out.trans (HS7.out.mono HBB.out.size)⟩
      case measure=>simp[intOf];omega
     | false =>
      have HTR:Hid (v=true):=hid (HME.out rfl)
      clear HMO HME
      go_wp2_with fail
      refine(HH1.out W2).mono ?_
      rintro e w5 ⟨rfl,hb5⟩
      have HS5:=hid hb5
      clear hb5 m0 m1 m2 g0
      obtain⟨m0,m1,m2⟩:=(HBX.out.on (HBB.out.trans (HS5.out.mono HBB.out.size))).three
      have g0:=(HS5.out.cell (p:=⟨gx,0,none⟩) HGX.out).trans HG0.out
      go_wp2_with fail
      refine(HH2.out w5).mono ?_
      rintro e w6 ⟨rfl,hb6⟩
      have HS6:=hid (HS5.out.trans (hb6.mono HS5.out.size))
      clear hb6 m0 m1 m2 g0
      obtain⟨m0,m1,m2⟩:=(HBX.out.on (HBB.out.trans (HS6.out.mono HBB.out.size))).three
      have g0:=(HS6.out.cell (p:=⟨gx,0,none⟩) HGX.out).trans HG0.out
      go_wp2_with fail
      refine(HFR.out w6 HS6.out).mono ?_
      rintro e w7 ⟨rfl,hb7⟩
      have HS7:=hid (HS6.out.trans (hb7.mono HS6.out.size))
      clear hb7 m0 m1 m2 g0
      go_wp2_with fail
      go_ret
      exact Ans.mk (by rw[HTR.out];rfl) (HB1.out.trans (HS7.out.mono HB1.out.size))
  ·have hkni:¬ (k:Int) < (n:Int):=by omega
   have e:v=false:=by
    have h:=HANY.out
    rw[List.take_of_length_le (by rw[HLN.out];omega)] at h
    rw[HV.out,h]
   subst e
   go_wp2_with fail
   go_ret
   exact Ans.mk rfl (HB0.out.trans (hb.mono HB0.out.size))
theorem elJ:Elt 180 2 1 8 (.int .i64 0):=⟨Tryz.underlying180,by kernel_rfl,rfl,by omega⟩
theorem run_makeJ (m:Nat) (hm:m≤1048576) (W:World):(Instr.makeSlice 180 (.int .i64 (m:Int)) (.int .i64 (m:Int))).run Tryz.prog W=.ok (.slice (some ⟨W.heap.size,0,none⟩) m m) (W.alloc (.cells (madeCells #[.int .i64 0] m) 2)):=by
 obtain⟨i,hi,hz,hs,hby⟩:=info_parts elJ.hi
 have hr:=run_make (P:=Tryz.prog) W 180 2 i _ elJ.ht hi hz .i64 .i64 m m (by omega) (by omega) (by rw[hby];omega) (by omega)
 rw[hs] at hr
 simp only[Int.toNat_natCast,Nat.mul_one] at hr
 exact hr
theorem bmore_any (s n S N:Int) (w:World) (hs:0≤s) (hn:0≤n) (h:s+n≤4611686018427387904) (hS:S=s) (hN:N=n) :
  Calls Tryz.prog 145 #[.int .i64 S,.int .i64 N] w fun e w'=>e=.returned (.int .i64 (s+n))∧w'=w:=by
 subst hS;subst hN
 have h1:¬ 9223372036854775807 - N < S:=by omega
 go_enter Tryz.func145,Tryz.ntmps145
 go_wp2
 go_ret
 exact⟨rfl,rfl⟩
def ccF (q:Int) (L:List Rn):Nat→Nat
 | 0=>0
 | k+1=>wc q L (ccF q L k)
theorem ccF_le (q:Int) (L:List Rn):∀ k,ccF q L k≤k*ticks L:=by
 intro k
 induction k with
 | zero=>simp[ccF]
 | succ k ih =>
  have:=wc_le q L (ccF q L k)
  simp only[ccF,Nat.succ_mul]
  omega
def MadJ (n:Nat) (f:Nat→Nat) (w:World) (e:Ending) (w':World):Prop :=
 ∃ g,e=.returned (.slice (some ⟨g,0,none⟩) n n)∧Vec w' g n (fun j=>.int .i64 (f j:Nat))∧Below w.heap.size w w'∧w.heap.size≤g
set_option maxRecDepth 100000 in
set_option maxHeartbeats 1600000 in
theorem waits_any (A:Option Addr) (n cap:Nat) (L:List Rn) (q:Int) (w:World) (h:RdR w w.heap.size A n L) (hc:n≤cap) (hn:n≤1048576) (ht:ticks L≤1099511627776) :
  Calls Tryz.prog 147 #[.slice A n cap,.int .i64 q] w (MadJ n (wt q L) w):=by
 have hmk:=run_makeJ n hn
 obtain⟨B,hB⟩:∃ B,B=w.heap.size:=⟨_,rfl⟩
 have hb0:Below B w (w.alloc (.cells (madeCells #[.int .i64 0] n) 2)):=by rw[hB];exact bl1 w _
 have hV0:Vec (w.alloc (.cells (madeCells #[.int .i64 0] n) 2)) w.heap.size n fun _=>.int .i64 0:=Vec.lit w _ _ n _ fun j hj=>made_get _ n j hj
 have hBg:B≤w.heap.size:=by omega
 rw[← hB] at h
 have hl:=h.len
 have HL:=hid hl
 have HB:=hid hB
 have hcc:=hid (ccF_le q L)
 clear hB hl
 go_enter Tryz.func147,Tryz.ntmps147
 go_wp2_with fail
 generalize w.alloc (.cells (madeCells #[.int .i64 0] n) 2)=W0 at hb0 hV0 ⊢
 generalize w.heap.size=g at hV0 hBg ⊢
 clear hmk
 go_loopw [6,7,11] (fun a _ s wr=>∃(k:Nat) (f:Nat→Value),k≤2∧s=.int .i64 k∧a=.int .i64 (ccF q L k:Nat)∧Vec wr g n f∧(∀ m,k=m+1→∀ i,i < n→f i=.int .i64 (wc q (L.drop (i+1)) (ccF q L m):Nat))∧Below B w wr) (fun _ _ s _=>2 - (intOf s).toNat)
 case atStart=>exact⟨0,_,by omega,rfl,rfl,hV0,fun m e=>by omega,hb0⟩
 case round =>
  obtain⟨k,f,hk,rfl,rfl,hV,hf,hb⟩:=hrel
  have HF:=hid hf
  clear hf
  by_cases hlt:k < 2
  ·have hck:=hcc.out k
   have hck2:ccF q L k≤2*ticks L:=by
    have:k*ticks L≤2*ticks L:=Nat.mul_le_mul_right _ (by omega)
    omega
   have HS:Hid (ccF q L (k+1)=wc q L (ccF q L k)):=hid rfl
   have HE0:Hid (wc q (L.drop n) (ccF q L k)=ccF q L k):=hid (by rw[List.drop_eq_nil_of_le (by rw[HL.out];omega)];rfl)
   clear hck
   generalize hC:ccF q L k=C at hck2 HS HE0 ⊢
   have HC:=hid hC
   clear hC
   obtain⟨W1,hW1⟩:∃ W1,W1=wr:=⟨_,rfl⟩
   rw[← hW1] at hV hb ⊢
   clear hW1
   go_wp2_with fail
   generalize hx0:(n:Int) - 1=x0
   have HX0:=hid hx0
   clear hx0
   generalize decide ((k:Int) < 2)=b12
   go_loopw [6,7] (fun a s wr=>∃(j v:Nat) (x:Int) (f:Nat→Value),j≤n∧s=.int .i64 x∧x=(j:Int) - 1∧a=.int .i64 (v:Int)∧wc q (L.drop j) C=v∧Vec wr g n f∧(∀ i,j≤i→i < n→f i=.int .i64 (wc q (L.drop (i+1)) C:Nat))∧Below B w wr) (fun _ s _=>(intOf s+1).toNat)
   case atStart=>exact⟨n,C,x0,f,Nat.le_refl _,rfl,HX0.out.symm,rfl,HE0.out,hV,fun i h1 h2=>by omega,hb⟩
   case round =>
    clear hV hb
    obtain⟨j,v,x,f2,hj,rfl,hx,rfl,hv,hV,hf,hb⟩:=hrel
    have HF2:=hid hf
    have HV:=hid hv
    have hvle:v≤3*ticks L:=by
     have h1:=wc_le q (L.drop j) C
     have h2:=ticks_drop_le L j
     omega
    clear hf hv
    by_cases h0:j=0
    ·have hx2:x=-1:=by omega
     clear hx
     subst hx2
     subst h0
     have hfin:ccF q L (k+1)=v:=by rw[HS.out];exact HV.out
     have HFIN:=hid hfin
     clear hfin
     go_wp2_with fail
     go_roundw
     case rel=>exact⟨k+1,f2,by omega,by go_num,by rw[HFIN.out],hV,fun m e i hi=>by
      have:m=k:=by omega
      subst this
      have e3:=HF2.out i (Nat.zero_le _) hi
      rw[HC.out];exact e3,hb⟩
     case measure=>simp[intOf];omega
    ·obtain⟨j,rfl⟩:∃ i,j=i+1:=⟨j - 1,by omega⟩
     have hx2:x=(j:Int):=by omega
     clear hx h0
     subst hx2
     have hjn:j < n:=by omega
     have hb3:=hb.setCell (p:=⟨g,j,none⟩) hBg (.int .i64 (v:Int))
     obtain⟨ad,r,rfl,had,hr,c0,c1⟩:=(h.below hb3).at_ hjn
     have d0:=hV.cell j hjn
     have d1:=hV.thaw j
     have hV3:=hV.set j (.int .i64 (v:Int))
     have hat:=wc_at (q:=q) hr C
     rw[HV.out] at hat
     have hrt:r.n≤ticks L:=mem_ticks (List.mem_of_getElem? hr)
     have HB3:=hid hb3
     have HV3:=hid hV3
     have HF3:Hid (∀ i,j≤i→i < n→put1 f2 j (.int .i64 (v:Int)) i=.int .i64 (wc q (L.drop (i+1)) C:Nat)):=hid fun i h1 h2=>by
      by_cases e:i=j
      ·subst e;rw[put1_same,HV.out]
      ·rw[put1_other e];exact HF2.out i (by omega) h2
     clear hb3 hV3 hr hb
     by_cases hp:r.p=q
     ·rw[if_pos hp] at hat
      have hpb:(r.p == q)=true:=beq_iff_eq.2 hp
      have HAT:=hid hat
      clear hp hat
      go_wp2_with fail
      refine(bmore_any (v:Int) (r.n:Int) _ _ _ (by omega) (by omega) (by omega) rfl rfl).mono ?_
      rintro e w1 ⟨rfl,rfl⟩
      go_wp2_with fail
      go_roundw
      case rel=>exact⟨j,0,_,_,by omega,rfl,by go_num,rfl,HAT.out,HV3.out,HF3.out,HB3.out⟩
      case measure=>simp[intOf]
     ·rw[if_neg hp] at hat
      have hpb:(r.p == q)=false:=beq_eq_false_iff_ne.2 hp
      have HAT:=hid hat
      clear hp hat
      go_wp2_with fail
      refine(bmore_any (v:Int) (r.n:Int) _ _ _ (by omega) (by omega) (by omega) rfl rfl).mono ?_
      rintro e w1 ⟨rfl,rfl⟩
      go_wp2_with fail
      go_roundw
      case rel=>exact⟨j,v+r.n,_,_,by omega,rfl,by go_num,by go_num,HAT.out,HV3.out,HF3.out,HB3.out⟩
      case measure=>simp[intOf]
  ·obtain rfl:k=2:=by omega
   have HFF:=HF.out 1 rfl
   have e1:∀ i,i < n→f i=.int .i64 (wt q L i:Nat):=HFF
   have HV:=hid (hV.congr e1)
   clear HFF e1 hV
   go_wp2_with fail
   go_ret
   exact⟨g,rfl,HV.out,by rw[← HB.out];exact hb,by rw[← HB.out];exact hBg⟩
theorem tidy_ge (L:List Rn):∀ r∈tidy L,1≤r.n:=(tidy_apart L).pos
theorem gapL_none {L:List Rn} {p:Int} (h:tkOf p L=0):gapL (wordsL L) p=-1:=by
 unfold gapL lateL
 rw[if_pos (has_tk0.2 h),if_pos (by omega)]
theorem lateL_none {L:List Rn} {p q:Int} (h:tkOf p L=0):lateL (wordsL L) p q=0:=by
 unfold lateL
 rw[if_pos (has_tk0.2 h)]
theorem lateL_never {L:List Rn} {p q:Int} (h:tkOf p L≠0) (h2:tkOf q L=0):lateL (wordsL L) p q=-1:=by
 unfold lateL
 rw[if_neg (by rw[has_tk0];exact h),if_pos (has_tk0.2 h2)]
theorem lateL_self {L:List Rn} {p:Int} (h:tkOf p L≠0):lateL (wordsL L) p p=(mo p (fun i _=>wt p (tidy L) i) (tidy L) (tidy L).length:Nat)+1:=by
 have hp:hasL p (wordsL (tidy L))=true:=has_tk.2 (by rw[tkOf_tidy];omega)
 unfold lateL
 rw[if_neg (by rw[has_tk0];exact h),if_neg (by rw[has_tk0];exact h),← wordsL_tidy L,gap_mo (tidy_ge L) hp]
 rfl
theorem gapL_mo {L:List Rn} {p:Int} (h:tkOf p L≠0):gapL (wordsL L) p=(mo p (fun i _=>wt p (tidy L) i) (tidy L) (tidy L).length:Nat):=by
 unfold gapL
 rw[lateL_self h,if_neg (by omega)]
 omega
theorem lateL_mo {L:List Rn} {p q:Int} (h:tkOf p L≠0) (h2:tkOf q L≠0) (hne:p≠q):lateL (wordsL L) p q=(mo p (fun i n=>wt q (tidy L) i+n) (tidy L) (tidy L).length:Nat):=by
 have hq:hasL q (wordsL (tidy L))=true:=has_tk.2 (by rw[tkOf_tidy];omega)
 unfold lateL
 rw[if_neg (by rw[has_tk0];exact h),if_neg (by rw[has_tk0];exact h2),← wordsL_tidy L,late_mo (tidy_ge L) hq hne]
set_option maxRecDepth 100000 in
set_option maxHeartbeats 1600000 in
theorem bgaps_any (A:Option Addr) (n cap:Nat) (L:List Rn) (p:Int) (w:World) (h:RdR w w.heap.size A n L) (hc:n≤cap) (hn:n≤1048576) (ht:ticks L≤1099511627776) :
  Calls Tryz.prog 146 #[.slice A n cap,.int .i64 p] w (Ans (.int .i64 (gapL (wordsL L) p)) w):=by
 have HT:=hid (ticks_any A n cap L p w h hc hn ht)
 have HY:=hid fun W (hb:Below w.heap.size w W)=>tidy_any A n cap L W (h.on hb) hc hn ht
 have hle:=tidy_le L
 rw[h.len] at hle
 have h1:=gapL_none (L:=L) (p:=p)
 have h2:=gapL_mo (L:=L) (p:=p)
 have htt:=ticks_tidy L
 generalize gapL (wordsL L) p=R at h1 h2 ⊢
 generalize tkOf p L=tk at HT h1 h2
 generalize tidy L=T at HY hle h2 htt
 rw[← htt] at ht
 clear h htt
 by_cases h0:tk=0
 ·have e:=h1 h0
  subst e
  subst h0
  clear h1 h2 HY
  go_enter Tryz.func146,Tryz.ntmps146
  go_wp2_with fail
  refine HT.out.mono ?_
  rintro e w1 ⟨rfl,hb1⟩
  go_wp2_with fail
  go_ret
  exact Ans.mk rfl hb1
 ·have HR:=hid (h2 h0)
  have htk:((tk:Int) == 0)=false:=beq_eq_false_iff_ne.2 (by omega)
  clear h1 h2
  go_enter Tryz.func146,Tryz.ntmps146
  go_wp2_with fail
  refine HT.out.mono ?_
  rintro e w1 ⟨rfl,hb1⟩
  go_wp2_with fail
  refine(HY.out w1 hb1).mono ?_
  rintro e w2 ⟨A1,c1,rfl,hr1,hc1,hb2,_⟩
  generalize hm1:T.length=m at hr1 hc1 hle HR
  go_wp2_with fail
  refine(waits_any A1 m c1 T p w2 hr1 hc1 (by omega) ht).mono ?_
  rintro e w3 ⟨g,rfl,hV,hb3,hg⟩
  have hr3:=hr1.on hb3
  have HB:=hid (hb1.trans ((hb2.mono hb1.size).trans (hb3.mono (Nat.le_trans hb1.size hb2.size))))
  clear hr1 hb1 hb2 hb3 hg HT HY hm1
  go_wp2_with fail
  go_loopw [5,6,7,18] (fun a _ _ s wr=>∃ i k:Nat,i≤m∧s=.int .i64 i∧a=.int .i64 k∧k=mo p (fun i _=>wt p T i) T i∧wr=w3) (fun _ _ _ s _=>m - (intOf s).toNat)
  case atStart=>exact⟨0,0,by omega,rfl,rfl,rfl,rfl⟩
  case round =>
   obtain⟨i,k,hi,rfl,rfl,hk,hw⟩:=hrel
   have hw':=hw.symm
   clear hw
   subst hw'
   by_cases hlt:i < m
   ·obtain⟨ad,r,rfl,had,hr,c0,c1⟩:=hr3.at_ hlt
    have d0:=hV.cell i hlt
    by_cases hp:r.p=p
    ·have hmo:=mo_yes (g:=fun i _=>wt p T i) hr hp
     rw[← hk] at hmo
     have hpb:(r.p == p)=true:=beq_iff_eq.2 hp
     have HMO:=hid hmo
     have HHV:=hid hV
     generalize wt p T i=x at d0 HMO
     clear hp hmo hk hr hV
     go_wp2_with fail
     go_roundw
     case rel=>exact⟨i+1,max k x,by omega,by go_num,by congr 1;first | omega | (split <;> omega),HMO.out.symm,trivial⟩
     case measure=>simp[intOf];omega
    ·have hmo:=mo_no (g:=fun i _=>wt p T i) hr hp
     rw[← hk] at hmo
     have hpb:(r.p == p)=false:=beq_eq_false_iff_ne.2 hp
     have HMO:=hid hmo
     have HHV:=hid hV
     clear hp hmo hk hr hV
     go_wp2_with fail
     go_roundw
     case rel=>exact⟨i+1,k,by omega,by go_num,rfl,HMO.out.symm,trivial⟩
     case measure=>simp[intOf];omega
   ·obtain rfl:i=m:=by omega
    have hR:R=(k:Int):=by rw[HR.out,hk]
    have HR2:=hid hR
    clear hR hk
    go_wp2_with fail
    go_ret
    exact Ans.mk (by rw[HR2.out];rfl) HB.out
set_option maxRecDepth 100000 in
set_option maxHeartbeats 1600000 in
theorem blate_any (A:Option Addr) (n cap:Nat) (L:List Rn) (p q:Int) (w:World) (h:RdR w w.heap.size A n L) (hc:n≤cap) (hn:n≤1048576) (ht:ticks L≤1099511627776) :
  Calls Tryz.prog 105 #[.slice A n cap,.int .i64 p,.int .i64 q] w (Ans (.int .i64 (lateL (wordsL L) p q)) w):=by
 have HT:=hid (ticks_any A n cap L p w h hc hn ht)
 have HT2:=hid fun W (hb:Below w.heap.size w W)=>ticks_any A n cap L q W (h.on hb) hc hn ht
 have HG:=hid fun W (hb:Below w.heap.size w W)=>bgaps_any A n cap L q W (h.on hb) hc hn ht
 have HY:=hid fun W (hb:Below w.heap.size w W)=>tidy_any A n cap L W (h.on hb) hc hn ht
 have hle:=tidy_le L
 rw[h.len] at hle
 have h1:=lateL_none (L:=L) (p:=p) (q:=q)
 have h2:=lateL_never (L:=L) (p:=p) (q:=q)
 have h3:=lateL_mo (L:=L) (p:=p) (q:=q)
 have h4:tkOf p L≠0→p=q→lateL (wordsL L) p q=gapL (wordsL L) q+1∧0≤gapL (wordsL L) q∧gapL (wordsL L) q≤1099511627777:=by
  rintro e rfl
  rw[gapL_mo e,lateL_self e]
  refine⟨rfl,by omega,?_⟩
  have e2:=lateL_le (wordsL L) p p
  rw[lateL_self e,wordsL_len] at e2
  omega
 have htt:=ticks_tidy L
 generalize gapL (wordsL L) q=G at HG h4
 generalize lateL (wordsL L) p q=R at h1 h2 h3 h4 ⊢
 have hpq:p=q→tkOf p L=tkOf q L:=by rintro rfl;rfl
 generalize tkOf p L=tk at HT h1 h2 h3 h4 hpq
 generalize tkOf q L=tk2 at HT2 h2 h3 hpq
 generalize tidy L=T at HY hle h3 htt
 rw[← htt] at ht
 clear h htt
 by_cases h0:tk=0
 ·have e:=h1 h0
  subst e
  subst h0
  clear h1 h2 h3 h4 HY HT2 HG hpq
  go_enter Tryz.func105,Tryz.ntmps105
  go_wp2_with fail
  refine HT.out.mono ?_
  rintro e w1 ⟨rfl,hb1⟩
  go_wp2_with fail
  go_ret
  exact Ans.mk rfl hb1
 ·have htk:((tk:Int) == 0)=false:=beq_eq_false_iff_ne.2 (by omega)
  by_cases h00:tk2=0
  ·have e:=h2 h0 h00
   subst e
   subst h00
   clear h1 h2 h3 h4 HY HG hpq
   go_enter Tryz.func105,Tryz.ntmps105
   go_wp2_with fail
   refine HT.out.mono ?_
   rintro e w1 ⟨rfl,hb1⟩
   go_wp2_with fail
   refine(HT2.out w1 hb1).mono ?_
   rintro e w2 ⟨rfl,hb2⟩
   have HB:=hid (hb1.trans (hb2.mono hb1.size))
   clear hb1 hb2
   go_wp2_with fail
   go_ret
   exact Ans.mk rfl HB.out
  ·have htk2:((tk2:Int) == 0)=false:=beq_eq_false_iff_ne.2 (by omega)
   by_cases hpe:p=q
   ·obtain⟨e1,e2,e3⟩:=h4 h0 hpe
    subst hpe
    have HE:=hid e1
    clear h1 h2 h3 h4 HY hpq e1
    go_enter Tryz.func105,Tryz.ntmps105
    go_wp2_with fail
    refine HT.out.mono ?_
    rintro e w1 ⟨rfl,hb1⟩
    go_wp2_with fail
    refine(HT2.out w1 hb1).mono ?_
    rintro e w2 ⟨rfl,hb2⟩
    have hb:=hb1.trans (hb2.mono hb1.size)
    clear hb1 hb2
    go_wp2_with fail
    refine(HG.out w2 hb).mono ?_
    rintro e w3 ⟨rfl,hb3⟩
    have HB:=hid (hb.trans (hb3.mono hb.size))
    clear hb hb3
    go_wp2_with fail
    refine(bmore_any G 1 _ _ _ (by omega) (by omega) (by omega) rfl rfl).mono ?_
    rintro e w4 ⟨rfl,rfl⟩
    go_wp2_with fail
    go_ret
    exact Ans.mk (by rw[HE.out];rfl) HB.out
   ·have HR:=hid (h3 h0 h00 hpe)
    have hpb:(p == q)=false:=beq_eq_false_iff_ne.2 hpe
    clear h1 h2 h3 h4 HG hpq hpe
    go_enter Tryz.func105,Tryz.ntmps105
    go_wp2_with fail
    refine HT.out.mono ?_
    rintro e w1 ⟨rfl,hb1⟩
    go_wp2_with fail
    refine(HT2.out w1 hb1).mono ?_
    rintro e w1' ⟨rfl,hb2⟩
    have hb:=hb1.trans (hb2.mono hb1.size)
    clear hb1 hb2
    go_wp2_with fail
    refine(HY.out w1' hb).mono ?_
    rintro e w2 ⟨A1,c1,rfl,hr1,hc1,hb2,_⟩
    generalize hm1:T.length=m at hr1 hc1 hle HR
    go_wp2_with fail
    refine(waits_any A1 m c1 T q w2 hr1 hc1 (by omega) ht).mono ?_
    rintro e w3 ⟨g,rfl,hV,hb3,hg⟩
    have hr3:=hr1.on hb3
    have HB:=hid (hb.trans ((hb2.mono hb.size).trans (hb3.mono (Nat.le_trans hb.size hb2.size))))
    clear hr1 hb hb2 hb3 hg HT HT2 HY hm1
    go_wp2_with fail
    go_loopw [7,8,9,31] (fun a _ _ s wr=>∃ i k:Nat,i≤m∧s=.int .i64 i∧a=.int .i64 k∧k=mo p (fun i n=>wt q T i+n) T i∧wr=w3) (fun _ _ _ s _=>m - (intOf s).toNat)
    case atStart=>exact⟨0,0,by omega,rfl,rfl,rfl,rfl⟩
    case round =>
     obtain⟨i,k,hi,rfl,rfl,hk,hw⟩:=hrel
     have hw':=hw.symm
     clear hw
     subst hw'
     by_cases hlt:i < m
     ·obtain⟨ad,r,rfl,had,hr,c0,c1⟩:=hr3.at_ hlt
      have d0:=hV.cell i hlt
      have hx:=wt_le q T i
      have hrt:r.n≤ticks T:=mem_ticks (List.mem_of_getElem? hr)
      by_cases hp:r.p=p
      ·have hmo:=mo_yes (g:=fun i n=>wt q T i+n) hr hp
       rw[← hk] at hmo
       have hpb2:(r.p == p)=true:=beq_iff_eq.2 hp
       have HMO:=hid hmo
       have HHV:=hid hV
       generalize wt q T i=x at d0 HMO hx
       clear hp hmo hk hr hV
       go_wp2_with fail
       refine(bmore_any (x:Int) (r.n:Int) _ _ _ (by omega) (by omega) (by omega) rfl rfl).mono ?_
       rintro e w4 ⟨rfl,rfl⟩
       go_wp2_with fail
       go_roundw
       case rel=>exact⟨i+1,max k (x+r.n),by omega,by go_num,by congr 1;first | omega | (split <;> omega),HMO.out.symm,trivial⟩
       case measure=>simp[intOf];omega
      ·have hmo:=mo_no (g:=fun i n=>wt q T i+n) hr hp
       rw[← hk] at hmo
       have hpb2:(r.p == p)=false:=beq_eq_false_iff_ne.2 hp
       have HMO:=hid hmo
       have HHV:=hid hV
       clear hp hmo hk hr hV
       go_wp2_with fail
       go_roundw
       case rel=>exact⟨i+1,k,by omega,by go_num,rfl,HMO.out.symm,trivial⟩
       case measure=>simp[intOf];omega
     ·obtain rfl:i=m:=by omega
      have hR:R=(k:Int):=by rw[HR.out,hk]
      have HR2:=hid hR
      clear hR hk
      go_wp2_with fail
      go_ret
      exact Ans.mk (by rw[HR2.out];rfl) HB.out
end Go.Proofs.YtfddpnhaejkacaaGreat
