import Derived.Test.YtfddpnhaejkacaaGreatLow7
import Derived.Test.YtfddpnhaejkacaaGreatLow6
import Derived.StillTailTactics
import Derived.Test.YtfddpnhaejkacaaGreatLow2
import Derived.Test.YtfddpnhaejkacaaGreatLow5
set_option linter.unusedSimpArgs false
set_option linter.unusedVariables false
namespace Go.Proofs.YtfddpnhaejkacaaGreat
open Go.RowKit Tab
open Lib (hid)
def ptOf (x:PtV):Pt:=⟨x.sched,x.stop⟩
def chOf (x:ChV):Ch:=⟨x.from_,x.to_,x.queue⟩
theorem RdB.below {α:Type} {f:α→List Value} {w w':World} {B n:Nat} {A:Option Addr} {l:List α} (h:RdB f w B A n l) (hb:Below B w w'):RdB f w' B A n l:=⟨h.len,h.rd.below hb⟩
theorem RdB.more {α:Type} {f:α→List Value} {w:World} {B B' n:Nat} {A:Option Addr} {l:List α} (h:RdB f w B A n l) (hB:B≤B'):RdB f w B' A n l:=⟨h.len,h.rd.more hB⟩
structure CfW (w:World) (B:Nat) (A1 A2:Option Addr) (n1 n2:Nat) (P:List PtV) (C:List ChV):Prop where
 p:RdB pcl w B A1 n1 P
 c:RdB cc w B A2 n2 C
section
variable {w w':World} {B B' n1 n2:Nat} {A1 A2:Option Addr} {P:List PtV} {C:List ChV}
theorem CfW.below (h:CfW w B A1 A2 n1 n2 P C) (hb:Below B w w'):CfW w' B A1 A2 n1 n2 P C:=⟨h.p.below hb,h.c.below hb⟩
theorem CfW.more (h:CfW w B A1 A2 n1 n2 P C) (hB:B≤B'):CfW w B' A1 A2 n1 n2 P C:=⟨h.p.more hB,h.c.more hB⟩
theorem CfW.on (h:CfW w w.heap.size A1 A2 n1 n2 P C) (hb:Below w.heap.size w w'):CfW w' w'.heap.size A1 A2 n1 n2 P C:=(h.below hb).more hb.size
end
theorem schedOf_at {P:List PtV} {a:Nat} {x:PtV} (h:P[a]? = some x):schedOf (P.map ptOf) a=x.sched:=by
 unfold schedOf;rw[List.getElem?_map,h];rfl
theorem wayL_more {n:Nat} {C:List ChV} {i:Nat} {x:ChV} (h:C[i]? = some x):wayL n ((C.take (i+1)).map chOf)=wayL n ((C.take i).map chOf)++wayOf n (chOf x):=by
 obtain⟨hi,e⟩:=List.getElem?_eq_some_iff.1 h
 rw[List.take_succ_eq_append_getElem hi,e,List.map_append]
 unfold wayL
 rw[List.flatMap_append]
 simp
def wcl (x:Nat×Nat):List Value:=[.int .i64 (x.1:Int),.int .i64 (x.2:Int)]
theorem wcl_len (x:Nat×Nat):(wcl x).length=2:=rfl
theorem wcl_one (l:List (Nat×Nat)):∀ u∈l.flatMap wcl,u.oneCell'=true:=by
 intro u hu
 obtain⟨x,_,hx⟩:=List.mem_flatMap.1 hu
 simp[wcl] at hx
 rcases hx with rfl | rfl <;> rfl
theorem wayOf_len (n:Nat) (x:Ch):(wayOf n x).length≤2:=by
 unfold wayOf
 split
 ·split <;> simp
 ·simp
theorem wayL_len (n:Nat) (C:List Ch):(wayL n C).length≤2*C.length:=by
 induction C with
 | nil=>simp[wayL]
 | cons x C ih =>
  have:=wayOf_len n x
  unfold wayL at ih ⊢
  rw[List.flatMap_cons,List.length_append,List.length_cons]
  omega
def MadW (L:List (Nat×Nat)) (w:World) (e:Ending) (w':World):Prop:=∃ A c,e=.returned (.slice A L.length c)∧RdB wcl w' w'.heap.size A L.length L∧L.length≤c∧Below w.heap.size w w'∧∀ b,obk A=some b→w.heap.size≤b
set_option maxRecDepth 100000 in
set_option maxHeartbeats 1000000 in
theorem ways_any (A1 A2 A3:Option Addr) (n1 n2 n3 c1 c2 c3:Nat) (P:List PtV) (C:List ChV) (w:World) (h:CfW w w.heap.size A1 A2 n1 n2 P C) (q1:n1≤1048576) (q2:n2≤1048576) :
  Calls Tryz.prog 129 #[.agg #[.slice A1 n1 c1,.slice A2 n2 c2,.slice A3 n3 c3]] w (MadW (wayL n1 (C.map chOf)) w):=by
 obtain⟨B,hB⟩:∃ B,B=w.heap.size:=⟨_,rfl⟩
 have hb0:Below B w (w.alloc (.cells #[.slice A1 n1 c1,.slice A2 n2 c2,.slice A3 n3 c3] 31)):=by rw[hB];exact bl1 w _
 have hC:=h.c.on (bl1 w (.cells #[.slice A1 n1 c1,.slice A2 n2 c2,.slice A3 n3 c3] 31))
 have hV:Vec (w.alloc (.cells #[.slice A1 n1 c1,.slice A2 n2 c2,.slice A3 n3 c3] 31)) B 3 fun j=>if j=0 then .slice A1 n1 c1 else if j=1 then .slice A2 n2 c2 else .slice A3 n3 c3:=by
  rw[hB]
  refine Vec.lit w _ _ 3 _ fun j hj=>?_
  rcases(by omega:j=0∨j=1∨j=2) with rfl | rfl | rfl <;> rfl
 have HHAS:=hid fun(p:Int) (w':World)=>has_any A1 A2 A3 n1 n2 n3 c1 c2 c3 p w'
 have HB:=hid hB
 clear h
 go_enter Tryz.func129,Tryz.ntmps129
 have d1:=hV.cell 1 (by omega)
 rw[if_neg (by omega),if_pos rfl] at d1
 rw[hB] at d1
 go_wp2_with fail
 rw[← hB] at d1 ⊢
 generalize w.alloc (.cells #[.slice A1 n1 c1,.slice A2 n2 c2,.slice A3 n3 c3] 31)=W at hb0 hC hV ⊢
 have HC:=hid hC
 have HV:=hid hV
 have HB0:=hid hb0
 clear d1 hC hB hV hb0
 go_loopw [3,5,9] (fun q _ s wr=>∃(i k c:Nat) (A:Option Addr),i≤n2∧s=.int .i64 i∧q=.slice A k c∧k≤2*i∧OwnV 161 2 wr W.heap.size A k c ((wayL n1 ((C.take i).map chOf)).flatMap wcl)∧Below W.heap.size W wr) (fun _ _ s _=>n2 - (intOf s).toNat)
 case atStart=>exact⟨0,0,0,none,by omega,rfl,rfl,by omega,by simpa [wayL] using OwnV.nil _ _ _ _,Below.refl _ _⟩
 case round =>
  obtain⟨i,k,c,A,hi,rfl,rfl,hk,how,hb⟩:=hrel
  by_cases hlt:i < n2
  ·obtain⟨ad,x,rfl,had,hx,c0,ck⟩:=(HC.out.on hb).at_ cc_len (by omega) hlt
   have d0:=c0 _ rfl
   have d1:=ck 1 _ (by omega) rfl
   have d2:=ck 2 _ (by omega) rfl
   have d3:=ck 3 _ (by omega) rfl
   have d4:=ck 4 _ (by omega) rfl
   have d5:=ck 5 _ (by omega) rfl
   have hmore:=wayL_more (n:=n1) hx
   obtain⟨xf,xt,xq,xc,xm,xl⟩:=x
   dsimp only at d0 d1 d2 d3 d4 d5
   have hbx:=bl1 wr (.cells #[.int .i64 xf,.int .i64 xt,.bool xq,.int .i64 xc,.int .u32 xm,.int .i64 xl] 42)
   have hb1:=hb.trans (hbx.mono hb.size)
   have how1:=how.below rfl hbx
   have hgx:∀ b,obk A=some b→b < wr.heap.size:=fun b hb=>(how.obk_ge hb).2
   have hVB:=HV.out.on hb1
   have m0:=hVB.cell 0 (by omega)
   have m1:=hVB.cell 1 (by omega)
   have m2:=hVB.cell 2 (by omega)
   rw[if_pos rfl] at m0
   rw[if_neg (by omega),if_pos rfl] at m1
   rw[if_neg (by omega),if_neg (by omega)] at m2
   have hVX:Vec (wr.alloc (.cells #[.int .i64 xf,.int .i64 xt,.bool xq,.int .i64 xc,.int .u32 xm,.int .i64 xl] 42)) wr.heap.size 3 fun j=>if j=0 then .int .i64 xf else if j=1 then .int .i64 xt else .bool xq :=
    Vec.lit wr _ _ 3 _ fun j hj=>by rcases(by omega:j=0∨j=1∨j=2) with rfl | rfl | rfl <;> rfl
   have hgsz:wr.heap.size < (wr.alloc (.cells #[.int .i64 xf,.int .i64 xt,.bool xq,.int .i64 xc,.int .u32 xm,.int .i64 xl] 42)).heap.size:=by simp
   have HMORE:=hid hmore
   have HGX:=hid hgx
   have HWS:=hid hb.size
   clear c0 ck hx hbx hmore how hb hVB hgx
   go_upto_region 5 with fail
   generalize wr.alloc (.cells #[.int .i64 xf,.int .i64 xt,.bool xq,.int .i64 xc,.int .u32 xm,.int .i64 xl] 42)=W1 at hb1 how1 m0 m1 m2 hVX hgsz ⊢
   generalize wr.heap.size=gx at hVX hgsz HGX HWS ⊢
   clear d0 d1 d2 d3 d4 d5
   have e0:=hVX.cell 0 (by omega)
   have e1:=hVX.cell 1 (by omega)
   have e2:=hVX.cell 2 (by omega)
   rw[if_pos rfl] at e0
   rw[if_neg (by omega),if_pos rfl] at e1
   rw[if_neg (by omega),if_neg (by omega)] at e2
   have HVX:=hid hVX
   have HVB:Hid (∀ w',Below W1.heap.size W1 w'→w'.cell? ⟨B,0,none⟩=some (.slice A1 n1 c1)∧w'.cell? ⟨B,1,none⟩=some (.slice (some ad) n2 c2)∧w'.cell? ⟨B,2,none⟩=some (.slice A3 n3 c3)):=hid fun w' hb=>by
    have hl:=World.block_lt_of_cell? W1 _ m0
    exact⟨(hb.cell (p:=⟨B,0,none⟩) hl).trans m0,(hb.cell (p:=⟨B,1,none⟩) hl).trans m1,(hb.cell (p:=⟨B,2,none⟩) hl).trans m2⟩
   have HVE:Hid (∀ w',Below W1.heap.size W1 w'→w'.cell? ⟨gx,0,none⟩=some (.int .i64 xf)∧w'.cell? ⟨gx,1,none⟩=some (.int .i64 xt)∧w'.cell? ⟨gx,2,none⟩=some (.bool xq)):=hid fun w' hb =>
    ⟨(hb.cell (p:=⟨gx,0,none⟩) hgsz).trans e0,(hb.cell (p:=⟨gx,1,none⟩) hgsz).trans e1,(hb.cell (p:=⟨gx,2,none⟩) hgsz).trans e2⟩
   have HB1:=hid hb1
   have HOW:=hid how1
   clear hVX hb1 how1
   cases hif:inP n1 xf with
   | false =>
    have HF:=HHAS.out xf W1
    rw[hif] at HF
    have HFF:=hid HF
    have hno:wayOf n1 ⟨xf,xt,xq⟩=[]:=by unfold wayOf;rw[hif];rfl
    have hmo:=HMORE.out
    rw[show chOf ⟨xf,xt,xq,xc,xm,xl⟩=⟨xf,xt,xq⟩ from rfl,hno,List.append_nil] at hmo
    have HMO:=hid hmo
    clear HF hno hmo hif
    go_wp2_with fail
    refine HFF.out.mono ?_
    rintro e w2 ⟨rfl,hb2⟩
    go_wp2_with fail
    go_roundw
    case rel=>exact⟨i+1,k,c,A,by omega,by go_num,rfl,by omega,by rw[HMO.out];exact HOW.out.below rfl hb2,HB1.out.trans (hb2.mono HB1.out.size)⟩
    case measure=>simp[intOf];omega
   | true =>
    have HF:=HHAS.out xf W1
    rw[hif] at HF
    have HFF:=hid HF
    have HIF:=hid hif
    clear HF hif
    go_wp2_with fail
    refine HFF.out.mono ?_
    rintro e w2 ⟨rfl,hb2⟩
    obtain⟨f0,f1,f2⟩:=HVE.out w2 hb2
    obtain⟨k0,k1,k2⟩:=HVB.out w2 hb2
    have HB2:=hid hb2
    clear m0 m1 m2 e0 e1 e2 hb2 HFF
    cases hit:inP n1 xt with
    | false =>
     have HF:=HHAS.out xt w2
     rw[hit] at HF
     have HFF:=hid HF
     have hno:wayOf n1 ⟨xf,xt,xq⟩=[]:=by unfold wayOf;rw[HIF.out,hit];rfl
     have hmo:=HMORE.out
     rw[show chOf ⟨xf,xt,xq,xc,xm,xl⟩=⟨xf,xt,xq⟩ from rfl,hno,List.append_nil] at hmo
     have HMO:=hid hmo
     clear HF hno hmo hit
     go_wp2_with fail
     refine HFF.out.mono ?_
     rintro e w3 ⟨rfl,hb3⟩
     have hb4:=HB2.out.trans (hb3.mono HB2.out.size)
     go_wp2_with fail
     go_roundw
     case rel=>exact⟨i+1,k,c,A,by omega,by go_num,rfl,by omega,by rw[HMO.out];exact HOW.out.below rfl hb4,HB1.out.trans (hb4.mono HB1.out.size)⟩
     case measure=>simp[intOf];omega
    | true =>
     have HF:=HHAS.out xt w2
     rw[hit] at HF
     have HFF:=hid HF
     have hyes:wayOf n1 ⟨xf,xt,xq⟩=(xf.toNat,xt.toNat)::(if xq then [(xt.toNat,xf.toNat)] else []):=by unfold wayOf;rw[HIF.out,hit];rfl
     have hmo:=HMORE.out
     rw[show chOf ⟨xf,xt,xq,xc,xm,xl⟩=⟨xf,xt,xq⟩ from rfl,hyes] at hmo
     have HMO:=hid hmo
     have g1:=inP_iff.1 HIF.out
     have g2:=inP_iff.1 hit
     obtain⟨f,rfl⟩:=Int.eq_ofNat_of_zero_le g1.1
     obtain⟨t,rfl⟩:=Int.eq_ofNat_of_zero_le g2.1
     clear HF hyes hmo hit g1 g2
     go_wp2_with fail
     refine HFF.out.mono ?_
     rintro e w3 ⟨rfl,hb3⟩
     have hb4:=HB2.out.trans (hb3.mono HB2.out.size)
     obtain⟨f0,f1,f2⟩:=HVE.out w3 hb4
     have hbl:=bl1 w3 (.cells #[.int .i64 (f:Int),.int .i64 (t:Int)] 161)
     have how4:=(HOW.out.below rfl hb4).below rfl hbl
     have hrd:=rdV_new w3 #[.int .i64 (f:Int),.int .i64 (t:Int)] 161 ([(f,t)].flatMap wcl) rfl
     have hb5:=hb4.trans (hbl.mono hb4.size)
     have hb6:=HB1.out.trans (hb5.mono HB1.out.size)
     have q2':k+2≤4194304:=by omega
     have HB5:=hid hb5
     have HB6:=hid hb6
     have hs6:=hb6.size
     clear hb3 hb4 hbl hb5 hb6 k0 k1 k2
     have HHT:Hid (∀ A4 w4,Grew A A4 (w3.alloc (.cells #[.int .i64 (f:Int),.int .i64 (t:Int)] 161)) w4→w4.cell? ⟨gx,0,none⟩=some (.int .i64 (f:Int))∧w4.cell? ⟨gx,1,none⟩=some (.int .i64 (t:Int))∧w4.cell? ⟨gx,2,none⟩=some (.bool xq)∧obk A4≠some gx):=hid fun A4 w4 hot=>by
      obtain⟨v0,v1,v2⟩:=HVE.out _ HB5.out
      have hg3:gx < (w3.alloc (.cells #[.int .i64 (f:Int),.int .i64 (t:Int)] 161)).heap.size:=Nat.lt_of_lt_of_le hgsz HB5.out.size
      have hne:some gx≠obk A:=fun e=>by have:=HGX.out gx e.symm;omega
      have hst:∀ o v,(w3.alloc (.cells #[.int .i64 (f:Int),.int .i64 (t:Int)] 161)).cell? ⟨gx,o,none⟩=some v→w4.cell? ⟨gx,o,none⟩=some v:=fun o v hv=>(World.cell?_of_block (hot.gb.block gx hg3 hne)).trans hv
      refine⟨hst _ _ v0,hst _ _ v1,hst _ _ v2,?_⟩
      rcases hot.at_ with e | ⟨g4,e,hge⟩
      ·rw[e];exact hne.symm
      ·rw[e]
       intro e5
       injection e5 with e5
       omega
     cases xq with
     | false =>
      go_upto_region 7 with (at_builtin;go_loud (refine wpList_appX elW rfl (.tmp 25) (.tmp 31) rfl rfl W.heap.size A k c _ rfl how4 _ 1 1 _ _ rfl hrd rfl Nat.one_pos (wcl_one [(f,t)]) (by omega) (by unfold maxLen;omega) hs6 (k+1) rfl ((wayL n1 ((C.take i).map chOf)++[(f,t)]).flatMap wcl) (by rw[List.flatMap_append]) ?_;intro A4 c4 w4 hw4 hb4 hot))
      obtain⟨z0,z1,z2,_⟩:=HHT.out A4 w4 hot
      have HR:Hid (OwnV 161 2 w4 W.heap.size A4 (k+1) c4 ((wayL n1 ((C.take (i+1)).map chOf)).flatMap wcl)):=hid (by rw[HMO.out];exact hw4)
      have HBR:=hid (HB6.out.trans hb4)
      clear hw4 hb4 how4 hrd hot f0 f1 f2
      go_wp2_with fail
      go_roundw
      case rel=>exact⟨i+1,k+1,c4,A4,by omega,by go_num,rfl,by omega,HR.out,HBR.out⟩
      case measure=>simp[intOf];omega
     | true =>
      go_upto_region 7 with (at_builtin;go_loud (refine wpList_appX elW rfl (.tmp 25) (.tmp 31) rfl rfl W.heap.size A k c _ rfl how4 _ 1 1 _ _ rfl hrd rfl Nat.one_pos (wcl_one [(f,t)]) (by omega) (by unfold maxLen;omega) hs6 (k+1) rfl ((wayL n1 ((C.take i).map chOf)++[(f,t)]).flatMap wcl) (by rw[List.flatMap_append]) ?_;intro A4 c4 w4 hw4 hb4 hot))
      obtain⟨z0,z1,z2,_⟩:=HHT.out A4 w4 hot
      have hbl4:=bl1 w4 (.cells #[.int .i64 (t:Int),.int .i64 (f:Int)] 161)
      have how5:=hw4.below rfl hbl4
      have hrd5:=rdV_new w4 #[.int .i64 (t:Int),.int .i64 (f:Int)] 161 ([(t,f)].flatMap wcl) rfl
      have hbr:=HB6.out.trans hb4
      have HBR:=hid (hbr.trans (hbl4.mono hbr.size))
      have hs7:W.heap.size≤(w4.alloc (.cells #[.int .i64 (t:Int),.int .i64 (f:Int)] 161)).heap.size:=HBR.out.size
      clear hw4 hb4 how4 hrd hot f0 f1 f2 hbr hbl4
      go_wp2_with (at_builtin;go_loud (refine wpList_appX elW rfl (.tmp 35) (.tmp 41) rfl rfl W.heap.size A4 (k+1) c4 _ rfl how5 _ 1 1 _ _ rfl hrd5 rfl Nat.one_pos (wcl_one [(t,f)]) (by omega) (by unfold maxLen;omega) hs7 (k+1+1) rfl ((wayL n1 ((C.take (i+1)).map chOf)).flatMap wcl) (by rw[HMO.out,List.flatMap_append,List.flatMap_append,List.append_assoc];rfl) ?_;intro A6 c6 w6 hw6 hb6 hot6))
      go_roundw
      case rel=>exact⟨i+1,k+1+1,c6,A6,by omega,by go_num,rfl,by omega,hw6,HBR.out.trans hb6⟩
      case measure=>simp[intOf];omega
  ·have hge:n2≤i:=by omega
   obtain rfl:n2=i:=by omega
   have hl:=how.len
   rw[List.take_of_length_le (by rw[HC.out.len];exact Nat.le_refl _)] at how hl
   rw[flat_len wcl_len] at hl
   go_wp2_with fail
   go_ret
   have hl2:(wayL n1 (C.map chOf)).length=k:=by omega
   refine⟨A,c,by rw[hl2];rfl,⟨rfl,how.rd⟩,by rw[hl2];exact how.cap,?_,fun b hb=>?_⟩
   ·have h0:=HB0.out.size
    have:=HB0.out.trans (hb.mono (by have:=HB.out;omega))
    rwa [HB.out] at this
   ·have:=(how.obk_ge hb).1
    have:=HB0.out.size
    omega
def hitB (x:ChV) (a b:Nat):Bool:=decide ((x.from_=(a:Int)∧x.to_=(b:Int))∨(x.from_=(b:Int)∧x.to_=(a:Int)))
set_option maxRecDepth 100000 in
set_option maxHeartbeats 1000000 in
theorem depend_any (A1 A2 A3:Option Addr) (n1 n2 n3 c1 c2 c3:Nat) (P:List PtV) (C:List ChV) (a b:Nat) (w:World) (h:CfW w w.heap.size A1 A2 n1 n2 P C) (q1:n1≤1048576) (q2:n2≤1048576) (ha:a < n1) (hb:b < n1) :
  Calls Tryz.prog 163 #[.agg #[.slice A1 n1 c1,.slice A2 n2 c2,.slice A3 n3 c3],.int .i64 (a:Int),.int .i64 (b:Int)] w (Ans (.bool (depF (P.map ptOf) (C.map chOf) a b)) w):=by
 have hlen:P.length=n1:=h.p.len
 obtain⟨v,hv⟩:∃ v,v=depF (P.map ptOf) (C.map chOf) a b:=⟨_,rfl⟩
 rw[← hv]
 have HV:=hid hv
 have HLEN:=hid hlen
 have hbw:=bl1 w (.cells #[.slice A1 n1 c1,.slice A2 n2 c2,.slice A3 n3 c3] 31)
 have hP:=h.p.on hbw
 have hC:=h.c.on hbw
 have m0:(w.alloc (.cells #[.slice A1 n1 c1,.slice A2 n2 c2,.slice A3 n3 c3] 31)).cell? ⟨w.heap.size,0,none⟩=some (.slice A1 n1 c1):=World.cell?_alloc_mark _ _ _ _ _
 have m1:(w.alloc (.cells #[.slice A1 n1 c1,.slice A2 n2 c2,.slice A3 n3 c3] 31)).cell? ⟨w.heap.size,1,none⟩=some (.slice A2 n2 c2):=World.cell?_alloc_mark _ _ _ _ _
 obtain⟨ad,x,rfl,hax,hx,_,ckx⟩:=hP.at_ pcl_len (by omega) ha
 obtain⟨ad',y,e,_,hy,_,cky⟩:=hP.at_ pcl_len (by omega) hb
 injection e with e
 subst e
 have d3:=ckx 3 _ (by omega) rfl
 have e3:=cky 3 _ (by omega) rfl
 have hsx:=schedOf_at hx
 have hsy:=schedOf_at hy
 obtain⟨nm,bu,pe,sc,st,pa,pn,pc,h0,h1,h2,h3,h4⟩:=x
 obtain⟨nm',bu',pe',sc',st',pa',pn',pc',h0',h1',h2',h3',h4'⟩:=y
 dsimp only at d3 e3 hsx hsy
 have HSX:=hid hsx
 have HSY:=hid hsy
 have HB0:=hid hbw
 clear h hv hlen hbw ckx cky hx hy hsx hsy hP
 go_enter Tryz.func163,Tryz.ntmps163
 by_cases hab:a=b
 ·subst hab
  have HVT:v=true:=by rw[HV.out];exact depF_self _ _ _
  subst HVT
  have heq:((a:Int) == (a:Int))=true:=by simp
  clear hC
  go_wp2_with fail
  go_ret
  exact⟨rfl,HB0.out⟩
 ·have heq:((a:Int) == (b:Int))=false:=by simp;omega
  by_cases hss:sc=true∧sc'=true
  ·obtain⟨rfl,rfl⟩:=hss
   have HVT:v=true:=by rw[HV.out,depF_iff];exact .inr (.inl ⟨HSX.out,HSY.out⟩)
   subst HVT
   clear hC
   go_wp2_with fail
   go_ret
   exact⟨rfl,HB0.out⟩
  ·have HNS:=hid hss
   have HAB:=hid hab
   go_upto_region 1 with fail
   go_cut [27] from 9 to 28 (fun c wx=>c=.bool false∧wx=w.alloc (.cells #[.slice (some ad) n1 c1,.slice A2 n2 c2,.slice A3 n3 c3] 31))
   case first =>
    cases sc with
    | false =>
     go_wp2_with fail
     go_meet
     case rel=>exact⟨rfl,rfl⟩
    | true =>
     cases sc' with
     | false =>
      go_wp2_with fail
      go_meet
      case rel=>exact⟨rfl,rfl⟩
     | true=>exact absurd ⟨rfl,rfl⟩ HNS.out
   case rest =>
    obtain⟨rfl,rfl⟩:=hcut
    generalize w.alloc (.cells #[.slice (some ad) n1 c1,.slice A2 n2 c2,.slice A3 n3 c3] 31)=W at HB0 hC m0 m1 d3 e3 ⊢
    clear hss hab heq d3 e3
    go_wp2_with fail
    go_loopw [8,31] (fun _ s wr=>∃ i:Nat,i≤n2∧s=.int .i64 i∧Below W.heap.size W wr∧∀ j x,j < i→C[j]? = some x→hitB x a b=false) (fun _ s _=>n2 - (intOf s).toNat)
    case atStart=>exact⟨0,by omega,rfl,Below.refl _ _,fun j x hj=>by omega⟩
    case round =>
     obtain⟨i,hi,rfl,hb,hno⟩:=hrel
     have HNO:=hid hno
     clear hno
     by_cases hlt:i < n2
     ·obtain⟨ad2,x,rfl,had,hx,c0,ck⟩:=(hC.on hb).at_ cc_len (by omega) hlt
      have d0:=c0 _ rfl
      have d1:=ck 1 _ (by omega) rfl
      have d2:=ck 2 _ (by omega) rfl
      have d3:=ck 3 _ (by omega) rfl
      have d4:=ck 4 _ (by omega) rfl
      have d5:=ck 5 _ (by omega) rfl
      obtain⟨xf,xt,xq,xc,xm,xl⟩:=x
      dsimp only at d0 d1 d2 d3 d4 d5
      have hbx:=bl1 wr (.cells #[.int .i64 xf,.int .i64 xt,.bool xq,.int .i64 xc,.int .u32 xm,.int .i64 xl] 42)
      have hb1:=hb.trans (hbx.mono hb.size)
      have f0:(wr.alloc (.cells #[.int .i64 xf,.int .i64 xt,.bool xq,.int .i64 xc,.int .u32 xm,.int .i64 xl] 42)).cell? ⟨wr.heap.size,0,none⟩=some (.int .i64 xf):=World.cell?_alloc_mark _ _ _ _ _
      have f1:(wr.alloc (.cells #[.int .i64 xf,.int .i64 xt,.bool xq,.int .i64 xc,.int .u32 xm,.int .i64 xl] 42)).cell? ⟨wr.heap.size,1,none⟩=some (.int .i64 xt):=World.cell?_alloc_mark _ _ _ _ _
      have HX:=hid hx
      obtain⟨q,hq⟩:∃ q,q=hitB ⟨xf,xt,xq,xc,xm,xl⟩ a b:=⟨_,rfl⟩
      have HQ:=hid hq
      clear c0 ck hx hbx hb hq
      go_upto_region 6 with fail
      generalize wr.alloc (.cells #[.int .i64 xf,.int .i64 xt,.bool xq,.int .i64 xc,.int .u32 xm,.int .i64 xl] 42)=W1 at hb1 f0 f1 ⊢
      generalize wr.heap.size=gx at f0 f1 ⊢
      clear d0 d1 d2 d3 d4 d5
      go_cut [56] from 35 to 57 (fun c wx=>c=.bool q∧wx=W1)
      case first =>
       have HQ2:=HQ.out
       unfold hitB at HQ2
       dsimp only at HQ2
       have HQ3:=hid HQ2
       clear HQ2
       by_cases k1:xf=(a:Int)
       ·by_cases k2:xt=(b:Int)
        ·have t1:(xf == (a:Int))=true:=by simp[k1]
         have t2:(xt == (b:Int))=true:=by simp[k2]
         have hqt:q=true:=by rw[HQ3.out];simp[k1,k2]
         subst hqt
         clear k1 k2
         go_wp2_with fail
         go_meet
         case rel=>exact⟨rfl,rfl⟩
        ·have t1:(xf == (a:Int))=true:=by simp[k1]
         have t2:(xt == (b:Int))=false:=by simp[k2]
         have k3:¬ xf=(b:Int):=by have:=HAB.out;omega
         have t3:(xf == (b:Int))=false:=by simp[k3]
         have hqt:q=false:=by rw[HQ3.out];simp[k2,k3]
         subst hqt
         clear k1 k2 k3
         go_wp2_with fail
         go_meet
         case rel=>exact⟨rfl,rfl⟩
       ·have t1:(xf == (a:Int))=false:=by simp[k1]
        by_cases k3:xf=(b:Int)
        ·have t3:(xf == (b:Int))=true:=by simp[k3]
         by_cases k4:xt=(a:Int)
         ·have t4:(xt == (a:Int))=true:=by simp[k4]
          have hqt:q=true:=by rw[HQ3.out];simp[k3,k4]
          subst hqt
          clear k1 k3 k4
          go_wp2_with fail
          go_meet
          case rel=>exact⟨rfl,rfl⟩
         ·have t4:(xt == (a:Int))=false:=by simp[k4]
          have hqt:q=false:=by rw[HQ3.out];simp[k1,k4]
          subst hqt
          clear k1 k3 k4
          go_wp2_with fail
          go_meet
          case rel=>exact⟨rfl,rfl⟩
        ·have t3:(xf == (b:Int))=false:=by simp[k3]
         have hqt:q=false:=by rw[HQ3.out];simp[k1,k3]
         subst hqt
         clear k1 k3
         go_wp2_with fail
         go_meet
         case rel=>exact⟨rfl,rfl⟩
      case rest =>
       obtain⟨rfl,rfl⟩:=hcut
       have HB1:=hid hb1
       clear f0 f1 hb1
       cases q with
       | true =>
        have HVT:v=true:=by
         rw[HV.out]
         unfold depF
         simp only[Bool.or_eq_true,List.any_eq_true]
         have hh:=HQ.out
         unfold hitB at hh
         simp only[Bool.true_eq,decide_eq_true_eq] at hh
         refine .inr ⟨chOf ⟨xf,xt,xq,xc,xm,xl⟩,List.mem_map.2 ⟨_,List.mem_of_getElem? HX.out,rfl⟩,hh.imp (fun e=>?_) (fun e=>?_)⟩
         all_goals
          rw[joins_iff,inP_iff,inP_iff,List.length_map,HLEN.out]
          simp only[chOf]
          omega
        subst HVT
        go_wp2_with fail
        go_ret
        exact⟨rfl,HB0.out.trans (HB1.out.mono HB0.out.size)⟩
       | false =>
        go_wp2_with fail
        go_roundw
        case rel=>exact⟨i+1,by omega,by go_num,HB1.out,fun j y hj hy=>by
         by_cases e:j=i
         ·subst e
          rw[HX.out] at hy
          injection hy with hy
          subst hy
          exact HQ.out.symm
         ·exact HNO.out j y (by omega) hy⟩
        case measure=>simp[intOf];omega
     ·have hge:n2≤i:=by omega
      have HVF:v=false:=by
       rw[HV.out,Bool.eq_false_iff]
       intro e
       have hjn:∀ x y,(∀ z∈C,¬ ((z.from_=(x:Nat)∧z.to_=(y:Nat))∨(z.from_=(y:Nat)∧z.to_=(x:Nat))))→(x,y) ∉ wayL (P.map ptOf).length (C.map chOf):=fun x y hz hm=>by
        rw[mem_wayL,List.any_eq_true] at hm
        obtain⟨u,hu,hm⟩:=hm
        obtain⟨z,hzC,rfl⟩:=List.mem_map.1 hu
        rw[Bool.or_eq_true,Bool.and_eq_true,joins_iff,joins_iff] at hm
        simp only[chOf] at hm
        exact hz z hzC (by rcases hm with hm | hm;exact .inl hm.2;exact .inr hm.2.2)
       have hall:∀ z∈C,¬ ((z.from_=(a:Int)∧z.to_=(b:Int))∨(z.from_=(b:Int)∧z.to_=(a:Int))):=fun z hz hh=>by
        obtain⟨j,hj,e⟩:=List.getElem_of_mem hz
        have:=HNO.out j z (by have:=hC.len;omega) (by rw[List.getElem?_eq_getElem hj,e])
        unfold hitB at this
        simp only[decide_eq_false_iff_not] at this
        exact this hh
       rw[depF_iff] at e
       rcases e with e | e | e | e
       ·exact HAB.out e
       ·rw[HSX.out,HSY.out] at e
        exact HNS.out e
       ·exact hjn a b hall e
       ·exact hjn b a (fun z hz hh=>hall z hz hh.symm) e
      subst HVF
      go_wp2_with fail
      go_ret
      exact⟨rfl,HB0.out.trans (hb.mono HB0.out.size)⟩
theorem RdB.other {α:Type} {f:α→List Value} {w:World} {n B:Nat} {A:Option Addr} {l:List α} (h:RdB f w B A n l) (p:Addr) (v:Value) (hp:∀ b,obk A=some b→b≠p.block):RdB f (w.setCell p v) B A n l:=by
 refine⟨h.len,fun hl=>?_⟩
 obtain⟨ad,e,hb,hc⟩:=h.rd hl
 refine⟨ad,e,hb,fun j u hj=>?_⟩
 rw[World.cell?_of_block (Below.heap_setCell w p v (ad.add j).block (by rw[add_block];exact hp _ (by rw[e];rfl)))]
 exact hc j u hj
theorem RdB.on' {α:Type} {f:α→List Value} {w w':World} {n:Nat} {A:Option Addr} {l:List α} (h:RdB f w w.heap.size A n l) (hb:Below w.heap.size w w'):RdB f w' w'.heap.size A n l:=(h.below hb).more hb.size
def mA (W:List (Nat×Nat)) (a b:Nat):Bool:=decide (a=b) || decide ((a,b)∈W) || decide ((b,a)∈W)
def mS (W:List (Nat×Nat)) (a b:Nat):Bool:=decide (a=b) || decide ((a,b)∈W)
theorem take_one {α:Type} {L:List α} {i:Nat} {x:α} (h:L[i]? = some x):L.take (i+1)=L.take i++[x]:=by
 obtain⟨hi,e⟩:=List.getElem?_eq_some_iff.1 h
 rw[List.take_succ_eq_append_getElem hi,e]
theorem mA_more {W:List (Nat×Nat)} {i:Nat} {f t:Nat} (h:W[i]? = some (f,t)) (a b:Nat):put2 (put2 (mA (W.take i)) f t true) t f true a b=mA (W.take (i+1)) a b:=by
 rw[take_one h]
 unfold put2 mA
 simp only[List.mem_append,List.mem_singleton,Prod.mk.injEq]
 by_cases h1:a=t∧b=f
 ·rw[if_pos h1];simp[h1.1,h1.2]
 ·rw[if_neg h1]
  by_cases h2:a=f∧b=t
  ·rw[if_pos h2];simp[h2.1,h2.2]
  ·rw[if_neg h2]
   have h3:¬ (b=f∧a=t):=fun e=>h1 ⟨e.2,e.1⟩
   simp[h2,h3]
def mQ (m q:Nat→Nat→Bool) (i j x y:Nat):Bool:=m x y || (q x y && (decide (x < i) || (decide (x=i) && decide (y < j))))
theorem mQ_zero (m q:Nat→Nat→Bool) (x y:Nat):mQ m q 0 0 x y=m x y:=by simp[mQ]
theorem mQ_put {m q:Nat→Nat→Bool} {i j:Nat} (h:q i j=true) (x y:Nat):put2 (mQ m q i j) i j true x y=mQ m q i (j+1) x y:=by
 unfold put2 mQ
 by_cases h1:x=i∧y=j
 ·rw[if_pos h1,h1.1,h1.2,h];simp
 ·rw[if_neg h1]
  congr 2
  by_cases h2:x=i
  ·have h3:y≠j:=fun e=>h1 ⟨h2,e⟩
   have h4:(y < j)=(y < j+1):=by simp;omega
   simp[h2,h4]
  ·simp[h2]
theorem mQ_skip {m q:Nat→Nat→Bool} {i j:Nat} (h:q i j=false) (x y:Nat):mQ m q i j x y=mQ m q i (j+1) x y:=by
 unfold mQ
 by_cases h1:x=i∧y=j
 ·rw[h1.1,h1.2,h];simp
 ·congr 2
  by_cases h2:x=i
  ·have h3:y≠j:=fun e=>h1 ⟨h2,e⟩
   have h4:(y < j)=(y < j+1):=by simp;omega
   simp[h2,h4]
  ·simp[h2]
theorem mQ_row {m q:Nat→Nat→Bool} {i n x y:Nat} (hy:y < n):mQ m q i n x y=mQ m q (i+1) 0 x y:=by
 unfold mQ
 congr 2
 rw[Bool.eq_iff_iff]
 simp
 omega
theorem mQ_all {m q:Nat→Nat→Bool} {n x y:Nat} (hx:x < n):mQ m q n 0 x y=(m x y || q x y):=by
 unfold mQ
 simp[hx]
def schQ (P:List PtV) (x y:Nat):Bool:=schedOf (P.map ptOf) x && schedOf (P.map ptOf) y
theorem depF_mQ {P:List PtV} {C:List ChV} {n a b:Nat} (hn:P.length=n) (ha:a < n):mQ (mA (wayL n (C.map chOf))) (schQ P) n 0 a b=depF (P.map ptOf) (C.map chOf) a b:=by
 rw[mQ_all ha,Bool.eq_iff_iff,depF_iff,List.length_map,hn]
 unfold mA schQ
 simp only[Bool.or_eq_true,Bool.and_eq_true,decide_eq_true_eq]
 constructor
 ·rintro (((h | h) | h) | h)
  ·exact .inl h
  ·exact .inr (.inr (.inl h))
  ·exact .inr (.inr (.inr h))
  ·exact .inr (.inl h)
 ·rintro (h | h | h | h)
  ·exact .inl (.inl (.inl h))
  ·exact .inr h
  ·exact .inl (.inl (.inr h))
  ·exact .inl (.inr h)
theorem RdB.way {w:World} {B n:Nat} {A:Option Addr} {L:List (Nat×Nat)} (h:RdB wcl w B A n L) {i:Nat} (hi:i < n):∃(ad:Addr) (f t:Nat),A=some ad∧ad.block < B∧L[i]? = some (f,t)∧w.cell? (ad.add (i*2))=some (.int .i64 (f:Int))∧w.cell? ⟨(ad.add (i*2)).block,(ad.add (i*2)).off+1,none⟩=some (.int .i64 (t:Int)):=by
 obtain⟨ad,x,e,hb,hx,c0,ck⟩:=h.at_ wcl_len (by omega) hi
 obtain⟨f,t⟩:=x
 exact⟨ad,f,t,e,hb,hx,c0 _ rfl,ck 1 _ (by omega) rfl⟩
theorem box_vec (w:World) (v0 v1 v2:Value) (t:TypeId):Vec (w.alloc (.cells #[v0,v1,v2] t)) w.heap.size 3 fun j=>if j=0 then v0 else if j=1 then v1 else v2 :=
 Vec.lit w _ _ 3 _ fun j hj=>by rcases(by omega:j=0∨j=1∨j=2) with rfl | rfl | rfl <;> rfl
theorem Vec.three {w:World} {g:Nat} {v0 v1 v2:Value} (h:Vec w g 3 fun j=>if j=0 then v0 else if j=1 then v1 else v2):w.cell? ⟨g,0,none⟩=some v0∧w.cell? ⟨g,1,none⟩=some v1∧w.cell? ⟨g,2,none⟩=some v2:=by
 refine⟨?_,?_,?_⟩
 ·have:=h.cell 0 (by omega);rwa [if_pos rfl] at this
 ·have:=h.cell 1 (by omega);rwa [if_neg (by omega),if_pos rfl] at this
 ·have:=h.cell 2 (by omega);rwa [if_neg (by omega),if_neg (by omega)] at this
set_option maxRecDepth 100000 in
set_option maxHeartbeats 1600000 in
theorem depends_any (A1 A2 A3:Option Addr) (n1 n2 n3 c1 c2 c3:Nat) (P:List PtV) (C:List ChV) (w:World) (h:CfW w w.heap.size A1 A2 n1 n2 P C) (q1:n1≤1024) (q2:n2≤1048576) :
  Calls Tryz.prog 92 #[.agg #[.slice A1 n1 c1,.slice A2 n2 c2,.slice A3 n3 c3]] w (MadG n1 (depF (P.map ptOf) (C.map chOf)) w):=by
 have hlen:P.length=n1:=h.p.len
 have hbw:=bl1 w (.cells #[.slice A1 n1 c1,.slice A2 n2 c2,.slice A3 n3 c3] 31)
 have hbox:=box_vec w (.slice A1 n1 c1) (.slice A2 n2 c2) (.slice A3 n3 c3) 31
 have hCf:=h.on hbw
 have hgsz:w.heap.size < (w.alloc (.cells #[.slice A1 n1 c1,.slice A2 n2 c2,.slice A3 n3 c3] 31)).heap.size:=by simp
 have HB0:=hid hbw
 have HLEN:=hid hlen
 clear h hbw hlen
 obtain⟨m0,m1,m2⟩:=hbox.three
 go_enter Tryz.func92,Tryz.ntmps92
 go_upto_region 1 with fail
 generalize w.alloc (.cells #[.slice A1 n1 c1,.slice A2 n2 c2,.slice A3 n3 c3] 31)=W at HB0 hCf hbox m0 m1 m2 hgsz ⊢
 obtain⟨gb,hgb⟩:∃ gb,gb=w.heap.size:=⟨_,rfl⟩
 rw[← hgb] at hbox m0 m1 m2 hgsz ⊢
 have HGB:=hid hgb
 clear hgb
 go_wp2_with fail
 refine(alone_any n1 W q1).mono ?_
 rintro e w1 ⟨g,G,rfl,hM1,hb1⟩
 obtain⟨B,hB⟩:∃ B,B=W.heap.size:=⟨_,rfl⟩
 rw[← hB] at hM1 hb1 hgsz
 obtain⟨m0,m1,m2⟩:=(hbox.below hb1 hgsz).three
 have HW:=hid (ways_any A1 A2 A3 n1 n2 n3 c1 c2 c3 P C w1 (by have:=hCf.below (hB▸hb1);exact this.more (by have:=hb1.size;omega)) (by omega) q2)
 have HB:=hid hB
 have HCF:=hid hCf
 have HBOX:=hid hbox
 clear hB hCf hbox
 go_wp2_with fail
 refine HW.out.mono ?_
 rintro e w2 ⟨Aw,cw,rfl,hRw,hcw,hb2,hAw⟩
 have hM2:=hM1.on hb2
 have hb3:=hb1.trans (hb2.mono (by have:=hb1.size;have:=HB.out;omega))
 have hGlt:g < w1.heap.size∧∀ i,i < n1→G i < w1.heap.size:=by
  obtain⟨f,hf,_⟩:=hM1.outer
  exact⟨hf.lt,fun i hi=>(hM1.rows i hi).lt⟩
 have HGL:=hid hGlt
 have HAW:=hid hAw
 obtain⟨L,hL⟩:∃ L,L=wayL n1 (C.map chOf):=⟨_,rfl⟩
 have hlt:∀ f t,(f,t)∈L→f < n1∧t < n1:=fun f t hm=>wayL_lt (by rw[← hL];exact hm)
 have HLT:=hid hlt
 rw[← hL] at hRw hcw ⊢
 have HL:=hid hL
 obtain⟨k,hk⟩:∃ k,k=L.length:=⟨_,rfl⟩
 have hkb:k≤2097152:=by
  have h1:=wayL_len n1 (C.map chOf)
  have h2:=HCF.out.c.len
  rw[List.length_map,h2] at h1
  rw[hk,hL]
  omega
 rw[← hk] at hRw hcw ⊢
 have HK:=hid hk
 have hM3:=hM2.congr (m':=mA (L.take 0)) fun i j _ _=>by simp[mA]
 clear hM1 hM2 hb1 hb2 hGlt hAw hL hk hlt m0 m1 m2 hgsz
 go_wp2_with fail
 go_loopw [5,15] (fun _ s wr=>∃ i:Nat,i≤k∧s=.int .i64 i∧Mat wr B g n1 n1 G (mA (L.take i))∧Below B W wr∧RdB wcl wr wr.heap.size Aw k L) (fun _ s _=>k - (intOf s).toNat)
 case atStart=>exact⟨0,by omega,rfl,hM3,hb3,hRw⟩
 case round =>
  obtain⟨i,hi,rfl,hM,hb,hR⟩:=hrel
  clear hM3 hb3 hRw
  by_cases hlt:i < k
  ·obtain⟨ad,f,t,rfl,had,hx,c0,c1⟩:=hR.way hlt
   obtain⟨hfn,htn⟩:=HLT.out f t (List.mem_of_getElem? hx)
   have hbx:=bl1 wr (.cells #[.int .i64 (f:Int),.int .i64 (t:Int)] 161)
   have hM1:=hM.on hbx
   have hb1:=hb.trans (hbx.mono (by have:=hM.low;obtain⟨_,h1,_⟩:=hM.outer;have:=h1.lt;omega))
   have hR1:=(hR.below hbx).more hbx.size
   have f0:(wr.alloc (.cells #[.int .i64 (f:Int),.int .i64 (t:Int)] 161)).cell? ⟨wr.heap.size,0,none⟩=some (.int .i64 (f:Int)):=World.cell?_alloc_mark _ _ _ _ _
   have f1:(wr.alloc (.cells #[.int .i64 (f:Int),.int .i64 (t:Int)] 161)).cell? ⟨wr.heap.size,1,none⟩=some (.int .i64 (t:Int)):=World.cell?_alloc_mark _ _ _ _ _
   have hgx:g≠wr.heap.size∧∀ i,i < n1→G i≠wr.heap.size:=by
    obtain⟨f,hf,_⟩:=hM.outer
    have:=hf.lt
    exact⟨by omega,fun i hi=>by have:=(hM.rows i hi).lt;omega⟩
   have HX:=hid hx
   clear hx hM hb hR hbx
   go_upto_region 5 with fail
   generalize wr.alloc (.cells #[.int .i64 (f:Int),.int .i64 (t:Int)] 161)=W1 at hM1 hb1 hR1 f0 f1 ⊢
   generalize wr.heap.size=gx at f0 f1 hgx ⊢
   clear c0 c1
   obtain⟨x,hx,hxg,hBx,hgl,hxl,e0,e1,e2,hst⟩:=hM1.at_ (i:=f) (j:=t) hfn (Nat.le_refl _) htn
   obtain⟨hM2,hB2⟩:=hst true
   have hb2:=(hB2 _ hb1).drew
   have hxgx:x≠gx:=by rw[← hx];exact hgx.2 f hfn
   have hR2:=hR1.other ⟨x,t,none⟩ (.bool true) fun b hb e=>by
    have h1:=HAW.out b hb
    have h2:=HGL.out.2 f hfn
    rw[hx] at h2
    dsimp only at e
    omega
   have f02:(W1.setCell ⟨x,t,none⟩ (.bool true)).drew.cell? ⟨gx,0,none⟩=some (.int .i64 (f:Int)):=by rw[World.cell?_drew,World.cell?_setCell_other _ _ _ _ (fun e=>by injection e with e;exact hxgx e)];exact f0
   have f12:(W1.setCell ⟨x,t,none⟩ (.bool true)).drew.cell? ⟨gx,1,none⟩=some (.int .i64 (t:Int)):=by rw[World.cell?_drew,World.cell?_setCell_other _ _ _ _ (fun e=>by injection e with e;exact hxgx e)];exact f1
   have HM2:=hid (hM2.on (w':=(W1.setCell ⟨x,t,none⟩ (.bool true)).drew) (Below.refl _ _).drew)
   have HB2:=hid hb2
   have HR2:=hid (RdB.on' (hR2.more (by simp)) (w':=(W1.setCell ⟨x,t,none⟩ (.bool true)).drew) (Below.refl _ _).drew)
   have HF02:=hid f02
   have HF12:=hid f12
   clear hst hM1 hb1 hR1 hM2 hB2 hb2 hR2 f02 f12 hgl hxl hBx hgx hxgx
   generalize mA (L.take i) f t=bft at e1
   go_still_tail 8,(by kernel_rfl)
   change wpList _ _ _ _ _ W1.drew
   go_upto_region 6 with fail
   generalize (W1.setCell ⟨x,t,none⟩ (.bool true)).drew=W2 at HM2 HB2 HR2 HF02 HF12 ⊢
   obtain⟨y,hy,hyg,hBy,hgl,hyl,k0,k1,k2,hst⟩:=HM2.out.at_ (i:=t) (j:=f) htn (Nat.le_refl _) hfn
   have f0:=HF02.out
   have f1:=HF12.out
   obtain⟨hM3,hB3⟩:=hst true
   have hb3:=(hB3 _ HB2.out).drew
   have hR3:=HR2.out.other ⟨y,f,none⟩ (.bool true) fun b hb e=>by
    have h1:=HAW.out b hb
    have h2:=HGL.out.2 t htn
    rw[hy] at h2
    dsimp only at e
    omega
   have HM3:=hid ((hM3.on (w':=(W2.setCell ⟨y,f,none⟩ (.bool true)).drew) (Below.refl _ _).drew).congr fun a b _ _=>mA_more HX.out a b)
   have HB3:=hid hb3
   have HR3:=hid (RdB.on' (hR3.more (by simp)) (w':=(W2.setCell ⟨y,f,none⟩ (.bool true)).drew) (Below.refl _ _).drew)
   clear hst hM3 hB3 hb3 hR3 hgl hyl hBy e0 e1 e2 HM2 HR2 HF02 HF12
   generalize put2 (mA (L.take i)) f t true t f=btf at k1
   go_still_tail 8,(by kernel_rfl)
   change wpList _ _ _ _ _ W2.drew
   go_wp2_with fail
   go_roundw
   case rel=>exact⟨i+1,by omega,by go_num,HM3.out,HB3.out,HR3.out⟩
   case measure=>simp[intOf];omega
  ·have hge:k≤i:=by omega
   have hM4:=hM.congr (m':=mQ (mA L) (schQ P) 0 0) fun a b _ _=>by rw[mQ_zero,List.take_of_length_le (by rw[← HK.out];exact hge)]
   have HB4:=hid hb
   have hlow:=hM.low
   clear hM hR hb
   go_wp2_with fail
   generalize wr=w3 at hM4 HB4
   go_loopw [6,7,38] (fun _ _ s wr=>∃ i:Nat,i≤n1∧s=.int .i64 i∧Mat wr B g n1 n1 G (mQ (mA L) (schQ P) i 0)∧Below B W wr) (fun _ _ s _=>n1 - (intOf s).toNat)
   case atStart=>exact⟨0,by omega,rfl,hM4,HB4.out⟩
   case round =>
    obtain⟨i,hi,rfl,hM,hb⟩:=hrel
    clear hM4
    by_cases hlt:i < n1
    ·obtain⟨x,hx,hxg,k0,_⟩:=hM.row hlt (Nat.le_refl _)
     have HM:=hid hM
     have HBB:=hid hb
     clear hM hb
     go_wp2_with fail
     go_loopw [7,46] (fun _ s wx=>∃ j:Nat,j≤n1∧s=.int .i64 j∧Mat wx B g n1 n1 G (mQ (mA L) (schQ P) i j)∧Below B W wx) (fun _ s _=>n1 - (intOf s).toNat)
     case atStart=>exact⟨0,by omega,rfl,HM.out,HBB.out⟩
     case round =>
      obtain⟨j,hj,rfl,hM,hb⟩:=hrel
      by_cases hjn:j < n1
      ·have hPw:=(HCF.out.p.below (HB.out▸hb))
       obtain⟨ad,u,rfl,had,hu,_,cku⟩:=hPw.at_ pcl_len (by omega) hlt
       obtain⟨ad',v,e,_,hv,_,ckv⟩:=hPw.at_ pcl_len (by omega) hjn
       injection e with e
       subst e
       have d3:=cku 3 _ (by omega) rfl
       have e3:=ckv 3 _ (by omega) rfl
       have hq:schQ P i j=(u.sched && v.sched):=by unfold schQ;rw[schedOf_at hu,schedOf_at hv]
       obtain⟨nm,bu,pe,sc,st,pa,pn,pc,h0,h1,h2,h3,h4⟩:=u
       obtain⟨nm',bu',pe',sc',st',pa',pn',pc',h0',h1',h2',h3',h4'⟩:=v
       dsimp only at d3 e3 hq
       obtain⟨b0,b1,b2⟩:=(HBOX.out.below (HB.out▸hb) (HB.out▸(HBOX.out.lt))).three
       obtain⟨y,hy,hyg,hBy,hgl,hyl,f0,f1,f2,hst⟩:=hM.at_ (i:=i) (j:=j) hlt (Nat.le_refl _) hjn
       have HM:=hid hM
       have HBX:=hid hb
       have HST:=hid (hst true)
       clear hM hb hPw cku ckv hu hv hst hgl hyl hBy k0
       generalize mQ (mA L) (schQ P) i j i j=bij at f1
       cases hss:(sc && sc') with
       | true =>
        rw[hss] at hq
        have HQ:=hid hq
        obtain⟨rfl,rfl⟩:sc=true∧sc'=true:=by simpa using hss
        clear hss hq
        go_wp2_with fail
        go_roundw
        case rel=>exact⟨j+1,by omega,by go_num,HST.out.1.congr fun a b _ _=>mQ_put HQ.out a b,HST.out.2 _ HBX.out⟩
        case measure=>simp[intOf];omega
       | false =>
        rw[hss] at hq
        have HQ:=hid hq
        clear hq
        cases sc <;> cases sc' <;> first | (simp at hss;done) | skip
        all_goals
         clear hss
         go_wp2_with fail
         go_roundw
         case rel=>exact⟨j+1,by omega,by go_num,HM.out.congr fun a b _ _=>mQ_skip HQ.out a b,HBX.out⟩
         case measure=>simp[intOf];omega
      ·have hge2:n1≤j:=by omega
       obtain rfl:n1=j:=by omega
       have HM2:=hid (hM.congr fun a b _ hb=>mQ_row hb)
       have HBX:=hid hb
       clear hM hb
       go_wp2_with fail
       go_roundw
       case rel=>exact⟨i+1,by omega,by go_num,HM2.out,HBX.out⟩
       case measure=>simp[intOf];omega
    ·have hge2:n1≤i:=by omega
     obtain rfl:n1=i:=by omega
     have hfin:=(hM.congr (m':=depF (P.map ptOf) (C.map chOf)) fun a b ha _=>by rw[HL.out,depF_mQ HLEN.out ha]).weak (B':=w.heap.size) (by rw[HB.out];exact HB0.out.size)
     have hbf:=HB0.out.trans (hb.mono (by rw[HB.out];exact HB0.out.size))
     have HFIN:=hid hfin
     clear hM hb hfin
     go_wp2_with fail
     go_ret
     exact⟨g,G,rfl,HFIN.out,hbf⟩
theorem mQ_or {m q:Nat→Nat→Bool} {i j:Nat} (x y:Nat):put2 (mQ m q i j) i j (mQ m q i j i j || q i j) x y=mQ m q i (j+1) x y:=by
 cases h:q i j with
 | true=>rw[Bool.or_true];exact mQ_put h x y
 | false =>
  rw[Bool.or_false,← mQ_skip h x y]
  unfold put2
  by_cases h1:x=i∧y=j
  ·rw[if_pos h1,h1.1,h1.2]
  ·rw[if_neg h1]
def dC (n:Nat) (C:List Ch) (a b:Nat):Bool:=C.any fun x=>joins n x a b || joins n x b a
def sC (n:Nat) (C:List Ch) (a b:Nat):Bool:=C.any fun x=>joins n x a b || (x.queue && joins n x b a)
theorem map_take_one {C:List ChV} {i:Nat} {x:ChV} (h:C[i]? = some x):(C.take (i+1)).map chOf=(C.take i).map chOf++[chOf x]:=by
 obtain⟨hi,e⟩:=List.getElem?_eq_some_iff.1 h
 rw[List.take_succ_eq_append_getElem hi,e,List.map_append]
 rfl
theorem joins_out {n:Nat} {x:Ch} (h:(inP n x.from_ && inP n x.to_)=false) (a b:Nat):joins n x a b=false:=by
 cases hj:joins n x a b with
 | false=>rfl
 | true =>
  have:=(joins_iff.1 hj).1
  rw[this.1,this.2] at h
  cases h
theorem joins_at {n:Nat} {x:Ch} {f t:Nat} (hf:x.from_=(f:Int)) (ht:x.to_=(t:Int)) (h1:f < n) (h2:t < n) (a b:Nat):joins n x a b=decide (a=f∧b=t):=by
 rw[Bool.eq_iff_iff,joins_iff,inP_iff,inP_iff,hf,ht,decide_eq_true_iff]
 constructor
 ·rintro ⟨_,e1,e2⟩;omega
 ·rintro ⟨rfl,rfl⟩;exact⟨⟨⟨by omega,by omega⟩,by omega,by omega⟩,rfl,rfl⟩
theorem dC_out {n:Nat} {C:List ChV} {i:Nat} {x:ChV} (hx:C[i]? = some x) (h:(inP n (chOf x).from_ && inP n (chOf x).to_)=false) (M:Nat→Nat→Bool) (a b:Nat):(M a b || dC n ((C.take i).map chOf) a b)=(M a b || dC n ((C.take (i+1)).map chOf) a b):=by
 rw[map_take_one hx]
 unfold dC
 rw[List.any_append,List.any_cons,List.any_nil,joins_out h,joins_out h]
 simp
theorem dC_in {n:Nat} {C:List ChV} {i:Nat} {x:ChV} (hx:C[i]? = some x) {f t:Nat} (hf:(chOf x).from_=(f:Int)) (ht:(chOf x).to_=(t:Int)) (h1:f < n) (h2:t < n) (M:Nat→Nat→Bool) (a b:Nat) :
  put2 (put2 (fun a b=>M a b || dC n ((C.take i).map chOf) a b) f t true) t f true a b=(M a b || dC n ((C.take (i+1)).map chOf) a b):=by
 rw[map_take_one hx]
 unfold dC put2
 rw[List.any_append,List.any_cons,List.any_nil,joins_at hf ht h1 h2,joins_at hf ht h1 h2,Bool.or_false]
 by_cases e1:a=t∧b=f
 ·have e2:decide (b=f∧a=t)=true:=decide_eq_true ⟨e1.2,e1.1⟩
  rw[if_pos e1,e2];simp
 ·rw[if_neg e1]
  have e2:decide (b=f∧a=t)=false:=decide_eq_false fun e=>e1 ⟨e.2,e.1⟩
  rw[e2]
  by_cases e3:a=f∧b=t
  ·rw[if_pos e3,decide_eq_true e3];simp
  ·rw[if_neg e3,decide_eq_false e3];simp
set_option maxRecDepth 100000 in
set_option maxHeartbeats 4000000 in
theorem rdepends_any (A1 A2 A3:Option Addr) (n1 n2 n3 c1 c2 c3:Nat) (P:List PtV) (C:List ChV) (w:World) (h:CfW w w.heap.size A1 A2 n1 n2 P C) (q1:n1≤1024) (q2:n2≤1048576) :
  Calls Tryz.prog 22 #[.agg #[.slice A1 n1 c1,.slice A2 n2 c2,.slice A3 n3 c3]] w (MadG n1 (depF (P.map ptOf) (C.map chOf)) w):=by
 have hlen:P.length=n1:=h.p.len
 have hbw:=bl1 w (.cells #[.slice A1 n1 c1,.slice A2 n2 c2,.slice A3 n3 c3] 31)
 have hbox:=box_vec w (.slice A1 n1 c1) (.slice A2 n2 c2) (.slice A3 n3 c3) 31
 have hCf:=h.on hbw
 have hgsz:w.heap.size < (w.alloc (.cells #[.slice A1 n1 c1,.slice A2 n2 c2,.slice A3 n3 c3] 31)).heap.size:=by simp
 have HB0:=hid hbw
 have HLEN:=hid hlen
 clear h hbw hlen
 obtain⟨m0,m1,m2⟩:=hbox.three
 go_enter Tryz.func22,Tryz.ntmps22
 go_upto_region 1 with fail
 generalize w.alloc (.cells #[.slice A1 n1 c1,.slice A2 n2 c2,.slice A3 n3 c3] 31)=W at HB0 hCf hbox m0 m1 m2 hgsz ⊢
 obtain⟨gb,hgb⟩:∃ gb,gb=w.heap.size:=⟨_,rfl⟩
 rw[← hgb] at hbox m0 m1 m2 hgsz ⊢
 have HGB:=hid hgb
 clear hgb
 go_wp2_with fail
 refine(rsquare_any n1 W q1).mono ?_
 rintro e w1 ⟨g,G,rfl,hM1,hb1⟩
 obtain⟨B,hB⟩:∃ B,B=W.heap.size:=⟨_,rfl⟩
 rw[← hB] at hM1 hb1 hgsz
 have HB:=hid hB
 have HCF:=hid hCf
 have HBOX:=hid hbox
 have HGS:=hid hgsz
 have hM2:=hid (hM1.congr (m':=mQ (fun a b=>decide (a=b)) (schQ P) 0 0) fun a b _ _=>by rw[mQ_zero])
 have HB1:=hid hb1
 clear hB hCf hbox hM1 hb1 m0 m1 m2 hgsz
 go_wp2_with fail
 go_loopw [4,5,14,19] (fun _ _ s _ wr=>∃ i:Nat,i≤n1∧s=.int .i64 i∧Mat wr B g n1 n1 G (mQ (fun a b=>decide (a=b)) (schQ P) i 0)∧Below B W wr) (fun _ _ s _ _=>n1 - (intOf s).toNat)
 case atStart=>exact⟨0,by omega,rfl,hM2.out,HB1.out⟩
 case round =>
  obtain⟨i,hi,rfl,hM,hb⟩:=hrel
  clear hM2 HB1
  by_cases hlt:i < n1
  ·have hlti:(i:Int) < (n1:Int):=by omega
   have HM:=hid hM
   have HBB:=hid hb
   clear hM hb
   go_wp2_with fail
   go_loopw [5,19] (fun _ s wx=>∃ j:Nat,j≤n1∧s=.int .i64 j∧Mat wx B g n1 n1 G (mQ (fun a b=>decide (a=b)) (schQ P) i j)∧Below B W wx) (fun _ s _=>n1 - (intOf s).toNat)
   case atStart=>exact⟨0,by omega,rfl,HM.out,HBB.out⟩
   case round =>
    obtain⟨j,hj,rfl,hM,hb⟩:=hrel
    clear HM HBB
    by_cases hjn:j < n1
    ·have hjni:(j:Int) < (n1:Int):=by omega
     have hPw:=(HCF.out.p.below (HB.out▸hb))
     obtain⟨ad,u,rfl,had,hu,_,cku⟩:=hPw.at_ pcl_len (by omega) hlt
     obtain⟨ad',v,e,_,hv,_,ckv⟩:=hPw.at_ pcl_len (by omega) hjn
     injection e with e
     subst e
     have d3:=cku 3 _ (by omega) rfl
     have d4:=cku 4 _ (by omega) rfl
     have e3:=ckv 3 _ (by omega) rfl
     have hq:(schQ P) i j=(u.sched && v.sched):=by unfold schQ;rw[schedOf_at hu,schedOf_at hv]
     obtain⟨nm,bu,pe,sc,st,pa,pn,pc,h0,h1,h2,h3,h4⟩:=u
     obtain⟨nm',bu',pe',sc',st',pa',pn',pc',h0',h1',h2',h3',h4'⟩:=v
     dsimp only at d3 d4 e3 hq
     obtain⟨b0,b1,b2⟩:=(HBOX.out.below (HB.out▸hb) (HB.out▸(HBOX.out.lt))).three
     have hMd:=hM.on (w':=wr.drew) (Below.refl _ _).drew
     obtain⟨y,hy,hyg,hBy,hgl,hyl,f0,f1,f2,hst⟩:=hMd.at_ (i:=i) (j:=j) hlt (Nat.le_refl _) hjn
     have HLT:Hid (i < n1∧j < n1∧(i:Int) < (n1:Int)∧(j:Int) < (n1:Int)):=hid ⟨hlt,hjn,hlti,hjni⟩
     obtain⟨bij,hbij⟩:∃ bij,bij=mQ (fun a b=>decide (a=b)) (schQ P) i j i j:=⟨_,rfl⟩
     rw[← hbij] at f1
     have HST:Hid (∀ V,V=(bij || (sc && sc'))→Mat (wr.drew.setCell ⟨y,j,none⟩ (.bool V)) B g n1 n1 G (mQ (fun a b=>decide (a=b)) (schQ P) i (j+1))∧Below B W (wr.drew.setCell ⟨y,j,none⟩ (.bool V))):=hid fun V hV=>by
      obtain⟨s1,s2⟩:=hst V
      refine⟨s1.congr fun a b _ _=>?_,s2 _ hb.drew⟩
      rw[hV,← hq,hbij]
      exact mQ_or a b
     clear hM hMd hb hPw cku ckv hu hv hst hgl hyl hBy hbij hq
     have d3:wr.drew.cell? ⟨(ad.add (i*11)).block,(ad.add (i*11)).off+3,none⟩=some (.bool sc):=d3
     have d4:wr.drew.cell? ⟨(ad.add (i*11)).block,(ad.add (i*11)).off+4,none⟩=some (.bool st):=d4
     have e3:wr.drew.cell? ⟨(ad.add (j*11)).block,(ad.add (j*11)).off+3,none⟩=some (.bool sc'):=e3
     have b0:wr.drew.cell? ⟨gb,0,none⟩=some (.slice (some ad) n1 c1):=b0
     go_wp2_with fail
     cases bij with
     | true =>
      refine Rgs.region (by kernel_rfl) (by kernel_rfl) (fun(opn:Nat) (vl:Value) (_:World)=>match opn with | 0=>vl=.slice (some ⟨g,0,none⟩) n1 n1 | 1=>vl=.int .i64 (i:Int) | 2=>vl=.pointer (some ⟨g,i,none⟩) | 3=>vl=.slice (some ⟨y,0,none⟩) n1 n1 | 4=>vl=.int .i64 (j:Int) | 5=>vl=.slice (some ⟨g,0,none⟩) n1 n1 | 6=>vl=.int .i64 (i:Int) | 7=>vl=.pointer (some ⟨g,i,none⟩) | 8=>vl=.slice (some ⟨y,0,none⟩) n1 n1 | 9=>vl=.int .i64 (j:Int) | 10=>vl=.pointer (some ⟨y,j,none⟩) | 11=>vl=.bool true | 12=>vl=.bool true | 13=>vl=undef | 14=>vl=undef | 15=>vl=undef | 16=>vl=undef | 17=>vl=undef | 18=>vl=undef | 19=>vl=undef | 20=>vl=undef | 21=>vl=undef | 22=>vl=undef | 23=>vl=undef | 24=>vl=undef | 25=>vl=undef | 26=>vl=undef | 27=>vl=.bool true | 28=>vl=.pointer (some ⟨y,j,none⟩) | 29=>vl=undef | _=>True) (fun live _ w'=>Rgs.StW wr.drew 29 ⟨y,j,none⟩ (.bool true) live w') rfl (Rgs.steps_of ?_) ?_
      ·refine⟨?_,?_,?_,?_,?_,?_,?_,?_,?_,?_,?_,?_,?_,?_,?_,?_,?_,?_,?_,?_,?_,?_,?_,?_,?_,?_,?_,?_,?_,?_,trivial⟩ <;> intro a w1 live S E D C h0 hk hW
       ·have e3:a.eval (.tmp 3)=.slice (some ⟨g,0,none⟩) n1 n1:=E 3 rfl
        exact Rgs.val rfl (Reg.wanted_free rfl) (.slice (some ⟨g,0,none⟩) n1 n1) (by have c:=Reg.consts a;generalize a.eval=ρ at *;simp[execOp,go_sem,c.1,c.2,e3]) rfl (hW.upd (by decide))
       ·have e4:a.eval (.tmp 4)=.int .i64 (i:Int):=E 4 rfl
        exact Rgs.val rfl (Reg.wanted_free rfl) (.int .i64 (i:Int)) (by have c:=Reg.consts a;generalize a.eval=ρ at *;simp[execOp,go_sem,c.1,c.2,e4]) rfl (hW.upd (by decide))
       ·have d0:a.eval (.tmp 22)=.slice (some ⟨g,0,none⟩) n1 n1:=D 0 rfl _ _ rfl rfl
        have d1:a.eval (.tmp 23)=.int .i64 (i:Int):=D 1 rfl _ _ rfl rfl
        have i1:=HLT.out
        obtain⟨i1,i2,i3,i4⟩:=i1
        have ead:=mk_add (g) (i)
        exact Rgs.val rfl (Reg.wanted_free rfl) (.pointer (some ⟨g,i,none⟩)) (by have c:=Reg.consts a;generalize a.eval=ρ at *;simp[execOp,go_sem,c.1,c.2,d0,d1,i1,i2,i3,i4,ead]) rfl (hW.upd (by decide))
       ·have d2:a.eval (.tmp 24)=.pointer (some ⟨g,i,none⟩):=D 2 rfl _ _ rfl rfl
        have l28:=Reg.not_live C h0 (j:=28) rfl rfl
        have l29:=Reg.not_live C l28 (j:=29) rfl rfl
        have hw:=hW.off l29
        subst hw
        have hc0:=f0
        exact Rgs.val rfl (Reg.wanted_free rfl) (.slice (some ⟨y,0,none⟩) n1 n1) (by have c:=Reg.consts a;generalize a.eval=ρ at *;simp[execOp,go_sem,c.1,c.2,d2,hc0]) rfl (hW.upd (by decide))
       ·have e5:a.eval (.tmp 5)=.int .i64 (j:Int):=E 5 rfl
        exact Rgs.val rfl (Reg.wanted_free rfl) (.int .i64 (j:Int)) (by have c:=Reg.consts a;generalize a.eval=ρ at *;simp[execOp,go_sem,c.1,c.2,e5]) rfl (hW.upd (by decide))
       ·have e3:a.eval (.tmp 3)=.slice (some ⟨g,0,none⟩) n1 n1:=E 3 rfl
        exact Rgs.val rfl (Reg.wanted_free rfl) (.slice (some ⟨g,0,none⟩) n1 n1) (by have c:=Reg.consts a;generalize a.eval=ρ at *;simp[execOp,go_sem,c.1,c.2,e3]) rfl (hW.upd (by decide))
       ·have e4:a.eval (.tmp 4)=.int .i64 (i:Int):=E 4 rfl
        exact Rgs.val rfl (Reg.wanted_free rfl) (.int .i64 (i:Int)) (by have c:=Reg.consts a;generalize a.eval=ρ at *;simp[execOp,go_sem,c.1,c.2,e4]) rfl (hW.upd (by decide))
       ·have d5:a.eval (.tmp 27)=.slice (some ⟨g,0,none⟩) n1 n1:=D 5 rfl _ _ rfl rfl
        have d6:a.eval (.tmp 28)=.int .i64 (i:Int):=D 6 rfl _ _ rfl rfl
        have i1:=HLT.out
        obtain⟨i1,i2,i3,i4⟩:=i1
        have ead:=mk_add (g) (i)
        exact Rgs.val rfl (Reg.wanted_free rfl) (.pointer (some ⟨g,i,none⟩)) (by have c:=Reg.consts a;generalize a.eval=ρ at *;simp[execOp,go_sem,c.1,c.2,d5,d6,i1,i2,i3,i4,ead]) rfl (hW.upd (by decide))
       ·have d7:a.eval (.tmp 29)=.pointer (some ⟨g,i,none⟩):=D 7 rfl _ _ rfl rfl
        have l10:=Reg.not_live C h0 (j:=10) rfl rfl
        have l11:=Reg.not_live C l10 (j:=11) rfl rfl
        have l12:=Reg.not_live C l11 (j:=12) rfl rfl
        have l27:=Reg.not_live C l12 (j:=27) rfl rfl
        have l29:=Reg.not_live C l27 (j:=29) rfl rfl
        have hw:=hW.off l29
        subst hw
        have hc0:=f0
        exact Rgs.val rfl (Reg.wanted_free rfl) (.slice (some ⟨y,0,none⟩) n1 n1) (by have c:=Reg.consts a;generalize a.eval=ρ at *;simp[execOp,go_sem,c.1,c.2,d7,hc0]) rfl (hW.upd (by decide))
       ·have e5:a.eval (.tmp 5)=.int .i64 (j:Int):=E 5 rfl
        exact Rgs.val rfl (Reg.wanted_free rfl) (.int .i64 (j:Int)) (by have c:=Reg.consts a;generalize a.eval=ρ at *;simp[execOp,go_sem,c.1,c.2,e5]) rfl (hW.upd (by decide))
       ·have d8:a.eval (.tmp 30)=.slice (some ⟨y,0,none⟩) n1 n1:=D 8 rfl _ _ rfl rfl
        have d9:a.eval (.tmp 31)=.int .i64 (j:Int):=D 9 rfl _ _ rfl rfl
        have i1:=HLT.out
        obtain⟨i1,i2,i3,i4⟩:=i1
        have ead:=mk_add (y) (j)
        exact Rgs.val rfl (Reg.wanted_free rfl) (.pointer (some ⟨y,j,none⟩)) (by have c:=Reg.consts a;generalize a.eval=ρ at *;simp[execOp,go_sem,c.1,c.2,d8,d9,i1,i2,i3,i4,ead]) rfl (hW.upd (by decide))
       ·have d10:a.eval (.tmp 32)=.pointer (some ⟨y,j,none⟩):=D 10 rfl _ _ rfl rfl
        have l12:=Reg.not_live C h0 (j:=12) rfl rfl
        have l27:=Reg.not_live C l12 (j:=27) rfl rfl
        have l29:=Reg.not_live C l27 (j:=29) rfl rfl
        have hw:=hW.off l29
        subst hw
        have hc0:=f1
        exact Rgs.val rfl (Reg.wanted_free rfl) (.bool true) (by have c:=Reg.consts a;generalize a.eval=ρ at *;simp[execOp,go_sem,c.1,c.2,d10,hc0]) rfl (hW.upd (by decide))
       ·have d11:a.eval (.tmp 33)=.bool true:=D 11 rfl _ _ rfl rfl
        exact Rgs.val rfl (Reg.wanted_free rfl) (.bool true) (by have c:=Reg.consts a;generalize a.eval=ρ at *;simp[execOp,go_sem,c.1,c.2,d11]) rfl (hW.upd (by decide))
       ·have dg:a.eval (.tmp 34)=.bool true:=D 12 rfl _ _ rfl rfl
        exact Rgs.skip rfl (Rgs.wanted_not rfl rfl dg rfl) rfl (hW.upd (by decide))
       ·have dg:a.eval (.tmp 34)=.bool true:=D 12 rfl _ _ rfl rfl
        exact Rgs.skip rfl (Rgs.wanted_not rfl rfl dg rfl) rfl (hW.upd (by decide))
       ·have dg:a.eval (.tmp 34)=.bool true:=D 12 rfl _ _ rfl rfl
        exact Rgs.skip rfl (Rgs.wanted_not rfl rfl dg rfl) rfl (hW.upd (by decide))
       ·have dg:a.eval (.tmp 34)=.bool true:=D 12 rfl _ _ rfl rfl
        exact Rgs.skip rfl (Rgs.wanted_not rfl rfl dg rfl) rfl (hW.upd (by decide))
       ·have dg:a.eval (.tmp 34)=.bool true:=D 12 rfl _ _ rfl rfl
        exact Rgs.skip rfl (Rgs.wanted_not rfl rfl dg rfl) rfl (hW.upd (by decide))
       ·have dg:a.eval (.tmp 34)=.bool true:=D 12 rfl _ _ rfl rfl
        exact Rgs.skip rfl (Rgs.wanted_not rfl rfl dg rfl) rfl (hW.upd (by decide))
       ·have dg:a.eval (.tmp 34)=.bool true:=D 12 rfl _ _ rfl rfl
        exact Rgs.skip rfl (Rgs.wanted_not rfl rfl dg rfl) rfl (hW.upd (by decide))
       ·have dg:a.eval (.tmp 41)=undef:=D 19 rfl _ _ rfl rfl
        exact Rgs.skip rfl (Rgs.wanted_undef rfl rfl dg) rfl (hW.upd (by decide))
       ·have dg:a.eval (.tmp 41)=undef:=D 19 rfl _ _ rfl rfl
        exact Rgs.skip rfl (Rgs.wanted_undef rfl rfl dg) rfl (hW.upd (by decide))
       ·have dg:a.eval (.tmp 41)=undef:=D 19 rfl _ _ rfl rfl
        exact Rgs.skip rfl (Rgs.wanted_undef rfl rfl dg) rfl (hW.upd (by decide))
       ·have dg:a.eval (.tmp 41)=undef:=D 19 rfl _ _ rfl rfl
        exact Rgs.skip rfl (Rgs.wanted_undef rfl rfl dg) rfl (hW.upd (by decide))
       ·have dg:a.eval (.tmp 41)=undef:=D 19 rfl _ _ rfl rfl
        exact Rgs.skip rfl (Rgs.wanted_undef rfl rfl dg) rfl (hW.upd (by decide))
       ·have dg:a.eval (.tmp 41)=undef:=D 19 rfl _ _ rfl rfl
        exact Rgs.skip rfl (Rgs.wanted_undef rfl rfl dg) rfl (hW.upd (by decide))
       ·have dg:a.eval (.tmp 34)=.bool true:=D 12 rfl _ _ rfl rfl
        exact Rgs.skip rfl (Rgs.wanted_not rfl rfl dg rfl) rfl (hW.upd (by decide))
       ·have d12:a.eval (.tmp 34)=.bool true:=D 12 rfl _ _ rfl rfl
        exact Rgs.val rfl (Reg.wanted_free rfl) (.bool true) (by have c:=Reg.consts a;generalize a.eval=ρ at *;simp[execOp,go_sem,c.1,c.2,d12]) rfl (hW.upd (by decide))
       ·have d3:a.eval (.tmp 25)=.slice (some ⟨y,0,none⟩) n1 n1:=D 3 rfl _ _ rfl rfl
        have d4:a.eval (.tmp 26)=.int .i64 (j:Int):=D 4 rfl _ _ rfl rfl
        have i1:=HLT.out
        obtain⟨i1,i2,i3,i4⟩:=i1
        have ead:=mk_add (y) (j)
        exact Rgs.val rfl (Reg.wanted_free rfl) (.pointer (some ⟨y,j,none⟩)) (by have c:=Reg.consts a;generalize a.eval=ρ at *;simp[execOp,go_sem,c.1,c.2,d3,d4,i1,i2,i3,i4,ead]) rfl (hW.upd (by decide))
       ·have d28:a.eval (.tmp 50)=.pointer (some ⟨y,j,none⟩):=D 28 rfl _ _ rfl rfl
        have d27:a.eval (.tmp 49)=.bool true:=D 27 rfl _ _ rfl rfl
        have hw:=hW.off h0
        subst hw
        have hc0:=f1
        have hfz:=f2
        refine Rgs.store rfl (Reg.wanted_free rfl) _ (by have c:=Reg.consts a;generalize a.eval=ρ at *;simp[execOp,go_sem,c.1,c.2,d28,d27,hc0,hfz]) rfl (Rgs.StW.put _ _ _ _ _) (fun j v _ h=>h)
      ·intro a w3 live hs hd E D' Hl hW
       rw[Rgs.act_ws a _ _ hs hd E [22,23,24,25,26,27,28,29,30,31,32,33,34,35,36,37,38,39,40,41,42,43,44,45,46,47,48,49,50] (by kernel_rfl)]
       simp only[List.foldl,List.setIfInBounds_toArray,List.set_cons_succ,List.set_cons_zero]
       have hw:=Rgs.StW.on hW (Hl 29 (by decide))
       subst hw
       clear E D' Hl hW
       generalize a.eval=ρ
       clear a hs hd f0 f1 f2 b0 b1 b2 d3 d4 e3
       go_wp2_with fail
       go_roundw
       case rel=>exact⟨j+1,by omega,by go_num,HST.out _ (by simp)⟩
       case measure=>simp[intOf];omega
     | false =>
      cases sc with
      | false =>
       refine Rgs.region (by kernel_rfl) (by kernel_rfl) (fun(opn:Nat) (vl:Value) (_:World)=>match opn with | 0=>vl=.slice (some ⟨g,0,none⟩) n1 n1 | 1=>vl=.int .i64 (i:Int) | 2=>vl=.pointer (some ⟨g,i,none⟩) | 3=>vl=.slice (some ⟨y,0,none⟩) n1 n1 | 4=>vl=.int .i64 (j:Int) | 5=>vl=.slice (some ⟨g,0,none⟩) n1 n1 | 6=>vl=.int .i64 (i:Int) | 7=>vl=.pointer (some ⟨g,i,none⟩) | 8=>vl=.slice (some ⟨y,0,none⟩) n1 n1 | 9=>vl=.int .i64 (j:Int) | 10=>vl=.pointer (some ⟨y,j,none⟩) | 11=>vl=.bool false | 12=>vl=.bool false | 13=>vl=.pointer (some ⟨gb,0,none⟩) | 14=>vl=.slice (some ad) n1 c1 | 15=>vl=.int .i64 (i:Int) | 16=>vl=.pointer (some (ad.add (i*11))) | 17=>vl=.pointer (some ⟨(ad.add (i*11)).block,(ad.add (i*11)).off+3,none⟩) | 18=>vl=.bool false | 19=>vl=.bool false | 20=>vl=undef | 21=>vl=undef | 22=>vl=undef | 23=>vl=undef | 24=>vl=undef | 25=>vl=undef | 26=>vl=.bool false | 27=>vl=.bool false | 28=>vl=.pointer (some ⟨y,j,none⟩) | 29=>vl=undef | _=>True) (fun live _ w'=>Rgs.StW wr.drew 29 ⟨y,j,none⟩ (.bool false) live w') rfl (Rgs.steps_of ?_) ?_
       ·refine⟨?_,?_,?_,?_,?_,?_,?_,?_,?_,?_,?_,?_,?_,?_,?_,?_,?_,?_,?_,?_,?_,?_,?_,?_,?_,?_,?_,?_,?_,?_,trivial⟩ <;> intro a w1 live S E D C h0 hk hW
        ·have e3:a.eval (.tmp 3)=.slice (some ⟨g,0,none⟩) n1 n1:=E 3 rfl
         exact Rgs.val rfl (Reg.wanted_free rfl) (.slice (some ⟨g,0,none⟩) n1 n1) (by have c:=Reg.consts a;generalize a.eval=ρ at *;simp[execOp,go_sem,c.1,c.2,e3]) rfl (hW.upd (by decide))
        ·have e4:a.eval (.tmp 4)=.int .i64 (i:Int):=E 4 rfl
         exact Rgs.val rfl (Reg.wanted_free rfl) (.int .i64 (i:Int)) (by have c:=Reg.consts a;generalize a.eval=ρ at *;simp[execOp,go_sem,c.1,c.2,e4]) rfl (hW.upd (by decide))
        ·have d0:a.eval (.tmp 22)=.slice (some ⟨g,0,none⟩) n1 n1:=D 0 rfl _ _ rfl rfl
         have d1:a.eval (.tmp 23)=.int .i64 (i:Int):=D 1 rfl _ _ rfl rfl
         have i1:=HLT.out
         obtain⟨i1,i2,i3,i4⟩:=i1
         have ead:=mk_add (g) (i)
         exact Rgs.val rfl (Reg.wanted_free rfl) (.pointer (some ⟨g,i,none⟩)) (by have c:=Reg.consts a;generalize a.eval=ρ at *;simp[execOp,go_sem,c.1,c.2,d0,d1,i1,i2,i3,i4,ead]) rfl (hW.upd (by decide))
        ·have d2:a.eval (.tmp 24)=.pointer (some ⟨g,i,none⟩):=D 2 rfl _ _ rfl rfl
         have l28:=Reg.not_live C h0 (j:=28) rfl rfl
         have l29:=Reg.not_live C l28 (j:=29) rfl rfl
         have hw:=hW.off l29
         subst hw
         have hc0:=f0
         exact Rgs.val rfl (Reg.wanted_free rfl) (.slice (some ⟨y,0,none⟩) n1 n1) (by have c:=Reg.consts a;generalize a.eval=ρ at *;simp[execOp,go_sem,c.1,c.2,d2,hc0]) rfl (hW.upd (by decide))
        ·have e5:a.eval (.tmp 5)=.int .i64 (j:Int):=E 5 rfl
         exact Rgs.val rfl (Reg.wanted_free rfl) (.int .i64 (j:Int)) (by have c:=Reg.consts a;generalize a.eval=ρ at *;simp[execOp,go_sem,c.1,c.2,e5]) rfl (hW.upd (by decide))
        ·have e3:a.eval (.tmp 3)=.slice (some ⟨g,0,none⟩) n1 n1:=E 3 rfl
         exact Rgs.val rfl (Reg.wanted_free rfl) (.slice (some ⟨g,0,none⟩) n1 n1) (by have c:=Reg.consts a;generalize a.eval=ρ at *;simp[execOp,go_sem,c.1,c.2,e3]) rfl (hW.upd (by decide))
        ·have e4:a.eval (.tmp 4)=.int .i64 (i:Int):=E 4 rfl
         exact Rgs.val rfl (Reg.wanted_free rfl) (.int .i64 (i:Int)) (by have c:=Reg.consts a;generalize a.eval=ρ at *;simp[execOp,go_sem,c.1,c.2,e4]) rfl (hW.upd (by decide))
        ·have d5:a.eval (.tmp 27)=.slice (some ⟨g,0,none⟩) n1 n1:=D 5 rfl _ _ rfl rfl
         have d6:a.eval (.tmp 28)=.int .i64 (i:Int):=D 6 rfl _ _ rfl rfl
         have i1:=HLT.out
         obtain⟨i1,i2,i3,i4⟩:=i1
         have ead:=mk_add (g) (i)
         exact Rgs.val rfl (Reg.wanted_free rfl) (.pointer (some ⟨g,i,none⟩)) (by have c:=Reg.consts a;generalize a.eval=ρ at *;simp[execOp,go_sem,c.1,c.2,d5,d6,i1,i2,i3,i4,ead]) rfl (hW.upd (by decide))
        ·have d7:a.eval (.tmp 29)=.pointer (some ⟨g,i,none⟩):=D 7 rfl _ _ rfl rfl
         have l10:=Reg.not_live C h0 (j:=10) rfl rfl
         have l11:=Reg.not_live C l10 (j:=11) rfl rfl
         have l12:=Reg.not_live C l11 (j:=12) rfl rfl
         have l27:=Reg.not_live C l12 (j:=27) rfl rfl
         have l29:=Reg.not_live C l27 (j:=29) rfl rfl
         have hw:=hW.off l29
         subst hw
         have hc0:=f0
         exact Rgs.val rfl (Reg.wanted_free rfl) (.slice (some ⟨y,0,none⟩) n1 n1) (by have c:=Reg.consts a;generalize a.eval=ρ at *;simp[execOp,go_sem,c.1,c.2,d7,hc0]) rfl (hW.upd (by decide))
        ·have e5:a.eval (.tmp 5)=.int .i64 (j:Int):=E 5 rfl
         exact Rgs.val rfl (Reg.wanted_free rfl) (.int .i64 (j:Int)) (by have c:=Reg.consts a;generalize a.eval=ρ at *;simp[execOp,go_sem,c.1,c.2,e5]) rfl (hW.upd (by decide))
        ·have d8:a.eval (.tmp 30)=.slice (some ⟨y,0,none⟩) n1 n1:=D 8 rfl _ _ rfl rfl
         have d9:a.eval (.tmp 31)=.int .i64 (j:Int):=D 9 rfl _ _ rfl rfl
         have i1:=HLT.out
         obtain⟨i1,i2,i3,i4⟩:=i1
         have ead:=mk_add (y) (j)
         exact Rgs.val rfl (Reg.wanted_free rfl) (.pointer (some ⟨y,j,none⟩)) (by have c:=Reg.consts a;generalize a.eval=ρ at *;simp[execOp,go_sem,c.1,c.2,d8,d9,i1,i2,i3,i4,ead]) rfl (hW.upd (by decide))
        ·have d10:a.eval (.tmp 32)=.pointer (some ⟨y,j,none⟩):=D 10 rfl _ _ rfl rfl
         have l12:=Reg.not_live C h0 (j:=12) rfl rfl
         have l27:=Reg.not_live C l12 (j:=27) rfl rfl
         have l29:=Reg.not_live C l27 (j:=29) rfl rfl
         have hw:=hW.off l29
         subst hw
         have hc0:=f1
         exact Rgs.val rfl (Reg.wanted_free rfl) (.bool false) (by have c:=Reg.consts a;generalize a.eval=ρ at *;simp[execOp,go_sem,c.1,c.2,d10,hc0]) rfl (hW.upd (by decide))
        ·have d11:a.eval (.tmp 33)=.bool false:=D 11 rfl _ _ rfl rfl
         exact Rgs.val rfl (Reg.wanted_free rfl) (.bool false) (by have c:=Reg.consts a;generalize a.eval=ρ at *;simp[execOp,go_sem,c.1,c.2,d11]) rfl (hW.upd (by decide))
        ·have dg:a.eval (.tmp 34)=.bool false:=D 12 rfl _ _ rfl rfl
         have e1:a.eval (.tmp 1)=.pointer (some ⟨gb,0,none⟩):=E 1 rfl
         exact Rgs.val rfl (Reg.wanted_if rfl rfl dg rfl) (.pointer (some ⟨gb,0,none⟩)) (by have c:=Reg.consts a;generalize a.eval=ρ at *;simp[execOp,go_sem,c.1,c.2,e1]) rfl (hW.upd (by decide))
        ·have dg:a.eval (.tmp 34)=.bool false:=D 12 rfl _ _ rfl rfl
         have d13:a.eval (.tmp 35)=.pointer (some ⟨gb,0,none⟩):=D 13 rfl _ _ rfl rfl
         have l16:=Reg.not_live C h0 (j:=16) rfl rfl
         have l17:=Reg.not_live C l16 (j:=17) rfl rfl
         have l18:=Reg.not_live C l17 (j:=18) rfl rfl
         have l19:=Reg.not_live C l18 (j:=19) rfl rfl
         have l26:=Reg.not_live C l19 (j:=26) rfl rfl
         have l27:=Reg.not_live C l26 (j:=27) rfl rfl
         have l29:=Reg.not_live C l27 (j:=29) rfl rfl
         have hw:=hW.off l29
         subst hw
         have hc0:=b0
         exact Rgs.val rfl (Reg.wanted_if rfl rfl dg rfl) (.slice (some ad) n1 c1) (by have c:=Reg.consts a;generalize a.eval=ρ at *;simp[execOp,go_sem,c.1,c.2,d13,hc0]) rfl (hW.upd (by decide))
        ·have dg:a.eval (.tmp 34)=.bool false:=D 12 rfl _ _ rfl rfl
         have e4:a.eval (.tmp 4)=.int .i64 (i:Int):=E 4 rfl
         exact Rgs.val rfl (Reg.wanted_if rfl rfl dg rfl) (.int .i64 (i:Int)) (by have c:=Reg.consts a;generalize a.eval=ρ at *;simp[execOp,go_sem,c.1,c.2,e4]) rfl (hW.upd (by decide))
        ·have dg:a.eval (.tmp 34)=.bool false:=D 12 rfl _ _ rfl rfl
         have d14:a.eval (.tmp 36)=.slice (some ad) n1 c1:=D 14 rfl _ _ rfl rfl
         have d15:a.eval (.tmp 37)=.int .i64 (i:Int):=D 15 rfl _ _ rfl rfl
         have i1:=HLT.out
         obtain⟨i1,i2,i3,i4⟩:=i1
         exact Rgs.val rfl (Reg.wanted_if rfl rfl dg rfl) (.pointer (some (ad.add (i*11)))) (by have c:=Reg.consts a;generalize a.eval=ρ at *;simp[execOp,go_sem,c.1,c.2,d14,d15,i1,i2,i3,i4]) rfl (hW.upd (by decide))
        ·have dg:a.eval (.tmp 34)=.bool false:=D 12 rfl _ _ rfl rfl
         have d16:a.eval (.tmp 38)=.pointer (some (ad.add (i*11))):=D 16 rfl _ _ rfl rfl
         exact Rgs.val rfl (Reg.wanted_if rfl rfl dg rfl) (.pointer (some ⟨(ad.add (i*11)).block,(ad.add (i*11)).off+3,none⟩)) (by have c:=Reg.consts a;generalize a.eval=ρ at *;simp[execOp,go_sem,c.1,c.2,d16]) rfl (hW.upd (by decide))
        ·have dg:a.eval (.tmp 34)=.bool false:=D 12 rfl _ _ rfl rfl
         have d17:a.eval (.tmp 39)=.pointer (some ⟨(ad.add (i*11)).block,(ad.add (i*11)).off+3,none⟩):=D 17 rfl _ _ rfl rfl
         have l19:=Reg.not_live C h0 (j:=19) rfl rfl
         have l26:=Reg.not_live C l19 (j:=26) rfl rfl
         have l27:=Reg.not_live C l26 (j:=27) rfl rfl
         have l29:=Reg.not_live C l27 (j:=29) rfl rfl
         have hw:=hW.off l29
         subst hw
         have hc0:=d3
         exact Rgs.val rfl (Reg.wanted_if rfl rfl dg rfl) (.bool false) (by have c:=Reg.consts a;generalize a.eval=ρ at *;simp[execOp,go_sem,c.1,c.2,d17,hc0]) rfl (hW.upd (by decide))
        ·have dg:a.eval (.tmp 34)=.bool false:=D 12 rfl _ _ rfl rfl
         have d18:a.eval (.tmp 40)=.bool false:=D 18 rfl _ _ rfl rfl
         exact Rgs.val rfl (Reg.wanted_if rfl rfl dg rfl) (.bool false) (by have c:=Reg.consts a;generalize a.eval=ρ at *;simp[execOp,go_sem,c.1,c.2,d18]) rfl (hW.upd (by decide))
        ·have dg:a.eval (.tmp 41)=.bool false:=D 19 rfl _ _ rfl rfl
         exact Rgs.skip rfl (Rgs.wanted_not rfl rfl dg rfl) rfl (hW.upd (by decide))
        ·have dg:a.eval (.tmp 41)=.bool false:=D 19 rfl _ _ rfl rfl
         exact Rgs.skip rfl (Rgs.wanted_not rfl rfl dg rfl) rfl (hW.upd (by decide))
        ·have dg:a.eval (.tmp 41)=.bool false:=D 19 rfl _ _ rfl rfl
         exact Rgs.skip rfl (Rgs.wanted_not rfl rfl dg rfl) rfl (hW.upd (by decide))
        ·have dg:a.eval (.tmp 41)=.bool false:=D 19 rfl _ _ rfl rfl
         exact Rgs.skip rfl (Rgs.wanted_not rfl rfl dg rfl) rfl (hW.upd (by decide))
        ·have dg:a.eval (.tmp 41)=.bool false:=D 19 rfl _ _ rfl rfl
         exact Rgs.skip rfl (Rgs.wanted_not rfl rfl dg rfl) rfl (hW.upd (by decide))
        ·have dg:a.eval (.tmp 41)=.bool false:=D 19 rfl _ _ rfl rfl
         exact Rgs.skip rfl (Rgs.wanted_not rfl rfl dg rfl) rfl (hW.upd (by decide))
        ·have dg:a.eval (.tmp 34)=.bool false:=D 12 rfl _ _ rfl rfl
         have d19:a.eval (.tmp 41)=.bool false:=D 19 rfl _ _ rfl rfl
         exact Rgs.val rfl (Reg.wanted_if rfl rfl dg rfl) (.bool false) (by have c:=Reg.consts a;generalize a.eval=ρ at *;simp[execOp,go_sem,c.1,c.2,d19]) rfl (hW.upd (by decide))
        ·have d12:a.eval (.tmp 34)=.bool false:=D 12 rfl _ _ rfl rfl
         have d26:a.eval (.tmp 48)=.bool false:=D 26 rfl _ _ rfl rfl
         exact Rgs.val rfl (Reg.wanted_free rfl) (.bool false) (by have c:=Reg.consts a;generalize a.eval=ρ at *;simp[execOp,go_sem,c.1,c.2,d12,d26]) rfl (hW.upd (by decide))
        ·have d3:a.eval (.tmp 25)=.slice (some ⟨y,0,none⟩) n1 n1:=D 3 rfl _ _ rfl rfl
         have d4:a.eval (.tmp 26)=.int .i64 (j:Int):=D 4 rfl _ _ rfl rfl
         have i1:=HLT.out
         obtain⟨i1,i2,i3,i4⟩:=i1
         have ead:=mk_add (y) (j)
         exact Rgs.val rfl (Reg.wanted_free rfl) (.pointer (some ⟨y,j,none⟩)) (by have c:=Reg.consts a;generalize a.eval=ρ at *;simp[execOp,go_sem,c.1,c.2,d3,d4,i1,i2,i3,i4,ead]) rfl (hW.upd (by decide))
        ·have d28:a.eval (.tmp 50)=.pointer (some ⟨y,j,none⟩):=D 28 rfl _ _ rfl rfl
         have d27:a.eval (.tmp 49)=.bool false:=D 27 rfl _ _ rfl rfl
         have hw:=hW.off h0
         subst hw
         have hc0:=f1
         have hfz:=f2
         refine Rgs.store rfl (Reg.wanted_free rfl) _ (by have c:=Reg.consts a;generalize a.eval=ρ at *;simp[execOp,go_sem,c.1,c.2,d28,d27,hc0,hfz]) rfl (Rgs.StW.put _ _ _ _ _) (fun j v _ h=>h)
       ·intro a w3 live hs hd E D' Hl hW
        rw[Rgs.act_ws a _ _ hs hd E [22,23,24,25,26,27,28,29,30,31,32,33,34,35,36,37,38,39,40,41,42,43,44,45,46,47,48,49,50] (by kernel_rfl)]
        simp only[List.foldl,List.setIfInBounds_toArray,List.set_cons_succ,List.set_cons_zero]
        have hw:=Rgs.StW.on hW (Hl 29 (by decide))
        subst hw
        clear E D' Hl hW
        generalize a.eval=ρ
        clear a hs hd f0 f1 f2 b0 b1 b2 d3 d4 e3
        go_wp2_with fail
        go_roundw
        case rel=>exact⟨j+1,by omega,by go_num,HST.out _ rfl⟩
        case measure=>simp[intOf];omega
      | true =>
       refine Rgs.region (by kernel_rfl) (by kernel_rfl) (fun(opn:Nat) (vl:Value) (_:World)=>match opn with | 0=>vl=.slice (some ⟨g,0,none⟩) n1 n1 | 1=>vl=.int .i64 (i:Int) | 2=>vl=.pointer (some ⟨g,i,none⟩) | 3=>vl=.slice (some ⟨y,0,none⟩) n1 n1 | 4=>vl=.int .i64 (j:Int) | 5=>vl=.slice (some ⟨g,0,none⟩) n1 n1 | 6=>vl=.int .i64 (i:Int) | 7=>vl=.pointer (some ⟨g,i,none⟩) | 8=>vl=.slice (some ⟨y,0,none⟩) n1 n1 | 9=>vl=.int .i64 (j:Int) | 10=>vl=.pointer (some ⟨y,j,none⟩) | 11=>vl=.bool false | 12=>vl=.bool false | 13=>vl=.pointer (some ⟨gb,0,none⟩) | 14=>vl=.slice (some ad) n1 c1 | 15=>vl=.int .i64 (i:Int) | 16=>vl=.pointer (some (ad.add (i*11))) | 17=>vl=.pointer (some ⟨(ad.add (i*11)).block,(ad.add (i*11)).off+3,none⟩) | 18=>vl=.bool true | 19=>vl=.bool true | 20=>vl=.pointer (some ⟨gb,0,none⟩) | 21=>vl=.slice (some ad) n1 c1 | 22=>vl=.int .i64 (j:Int) | 23=>vl=.pointer (some (ad.add (j*11))) | 24=>vl=.pointer (some ⟨(ad.add (j*11)).block,(ad.add (j*11)).off+3,none⟩) | 25=>vl=.bool sc' | 26=>vl=.bool sc' | 27=>vl=.bool sc' | 28=>vl=.pointer (some ⟨y,j,none⟩) | 29=>vl=undef | _=>True) (fun live _ w'=>Rgs.StW wr.drew 29 ⟨y,j,none⟩ (.bool sc') live w') rfl (Rgs.steps_of ?_) ?_
       ·refine⟨?_,?_,?_,?_,?_,?_,?_,?_,?_,?_,?_,?_,?_,?_,?_,?_,?_,?_,?_,?_,?_,?_,?_,?_,?_,?_,?_,?_,?_,?_,trivial⟩ <;> intro a w1 live S E D C h0 hk hW
        ·have e3:a.eval (.tmp 3)=.slice (some ⟨g,0,none⟩) n1 n1:=E 3 rfl
         exact Rgs.val rfl (Reg.wanted_free rfl) (.slice (some ⟨g,0,none⟩) n1 n1) (by have c:=Reg.consts a;generalize a.eval=ρ at *;simp[execOp,go_sem,c.1,c.2,e3]) rfl (hW.upd (by decide))
        ·have e4:a.eval (.tmp 4)=.int .i64 (i:Int):=E 4 rfl
         exact Rgs.val rfl (Reg.wanted_free rfl) (.int .i64 (i:Int)) (by have c:=Reg.consts a;generalize a.eval=ρ at *;simp[execOp,go_sem,c.1,c.2,e4]) rfl (hW.upd (by decide))
        ·have d0:a.eval (.tmp 22)=.slice (some ⟨g,0,none⟩) n1 n1:=D 0 rfl _ _ rfl rfl
         have d1:a.eval (.tmp 23)=.int .i64 (i:Int):=D 1 rfl _ _ rfl rfl
         have i1:=HLT.out
         obtain⟨i1,i2,i3,i4⟩:=i1
         have ead:=mk_add (g) (i)
         exact Rgs.val rfl (Reg.wanted_free rfl) (.pointer (some ⟨g,i,none⟩)) (by have c:=Reg.consts a;generalize a.eval=ρ at *;simp[execOp,go_sem,c.1,c.2,d0,d1,i1,i2,i3,i4,ead]) rfl (hW.upd (by decide))
        ·have d2:a.eval (.tmp 24)=.pointer (some ⟨g,i,none⟩):=D 2 rfl _ _ rfl rfl
         have l28:=Reg.not_live C h0 (j:=28) rfl rfl
         have l29:=Reg.not_live C l28 (j:=29) rfl rfl
         have hw:=hW.off l29
         subst hw
         have hc0:=f0
         exact Rgs.val rfl (Reg.wanted_free rfl) (.slice (some ⟨y,0,none⟩) n1 n1) (by have c:=Reg.consts a;generalize a.eval=ρ at *;simp[execOp,go_sem,c.1,c.2,d2,hc0]) rfl (hW.upd (by decide))
        ·have e5:a.eval (.tmp 5)=.int .i64 (j:Int):=E 5 rfl
         exact Rgs.val rfl (Reg.wanted_free rfl) (.int .i64 (j:Int)) (by have c:=Reg.consts a;generalize a.eval=ρ at *;simp[execOp,go_sem,c.1,c.2,e5]) rfl (hW.upd (by decide))
        ·have e3:a.eval (.tmp 3)=.slice (some ⟨g,0,none⟩) n1 n1:=E 3 rfl
         exact Rgs.val rfl (Reg.wanted_free rfl) (.slice (some ⟨g,0,none⟩) n1 n1) (by have c:=Reg.consts a;generalize a.eval=ρ at *;simp[execOp,go_sem,c.1,c.2,e3]) rfl (hW.upd (by decide))
        ·have e4:a.eval (.tmp 4)=.int .i64 (i:Int):=E 4 rfl
         exact Rgs.val rfl (Reg.wanted_free rfl) (.int .i64 (i:Int)) (by have c:=Reg.consts a;generalize a.eval=ρ at *;simp[execOp,go_sem,c.1,c.2,e4]) rfl (hW.upd (by decide))
        ·have d5:a.eval (.tmp 27)=.slice (some ⟨g,0,none⟩) n1 n1:=D 5 rfl _ _ rfl rfl
         have d6:a.eval (.tmp 28)=.int .i64 (i:Int):=D 6 rfl _ _ rfl rfl
         have i1:=HLT.out
         obtain⟨i1,i2,i3,i4⟩:=i1
         have ead:=mk_add (g) (i)
         exact Rgs.val rfl (Reg.wanted_free rfl) (.pointer (some ⟨g,i,none⟩)) (by have c:=Reg.consts a;generalize a.eval=ρ at *;simp[execOp,go_sem,c.1,c.2,d5,d6,i1,i2,i3,i4,ead]) rfl (hW.upd (by decide))
        ·have d7:a.eval (.tmp 29)=.pointer (some ⟨g,i,none⟩):=D 7 rfl _ _ rfl rfl
         have l10:=Reg.not_live C h0 (j:=10) rfl rfl
         have l11:=Reg.not_live C l10 (j:=11) rfl rfl
         have l12:=Reg.not_live C l11 (j:=12) rfl rfl
         have l27:=Reg.not_live C l12 (j:=27) rfl rfl
         have l29:=Reg.not_live C l27 (j:=29) rfl rfl
         have hw:=hW.off l29
         subst hw
         have hc0:=f0
         exact Rgs.val rfl (Reg.wanted_free rfl) (.slice (some ⟨y,0,none⟩) n1 n1) (by have c:=Reg.consts a;generalize a.eval=ρ at *;simp[execOp,go_sem,c.1,c.2,d7,hc0]) rfl (hW.upd (by decide))
        ·have e5:a.eval (.tmp 5)=.int .i64 (j:Int):=E 5 rfl
         exact Rgs.val rfl (Reg.wanted_free rfl) (.int .i64 (j:Int)) (by have c:=Reg.consts a;generalize a.eval=ρ at *;simp[execOp,go_sem,c.1,c.2,e5]) rfl (hW.upd (by decide))
        ·have d8:a.eval (.tmp 30)=.slice (some ⟨y,0,none⟩) n1 n1:=D 8 rfl _ _ rfl rfl
         have d9:a.eval (.tmp 31)=.int .i64 (j:Int):=D 9 rfl _ _ rfl rfl
         have i1:=HLT.out
         obtain⟨i1,i2,i3,i4⟩:=i1
         have ead:=mk_add (y) (j)
         exact Rgs.val rfl (Reg.wanted_free rfl) (.pointer (some ⟨y,j,none⟩)) (by have c:=Reg.consts a;generalize a.eval=ρ at *;simp[execOp,go_sem,c.1,c.2,d8,d9,i1,i2,i3,i4,ead]) rfl (hW.upd (by decide))
        ·have d10:a.eval (.tmp 32)=.pointer (some ⟨y,j,none⟩):=D 10 rfl _ _ rfl rfl
         have l12:=Reg.not_live C h0 (j:=12) rfl rfl
         have l27:=Reg.not_live C l12 (j:=27) rfl rfl
         have l29:=Reg.not_live C l27 (j:=29) rfl rfl
         have hw:=hW.off l29
         subst hw
         have hc0:=f1
         exact Rgs.val rfl (Reg.wanted_free rfl) (.bool false) (by have c:=Reg.consts a;generalize a.eval=ρ at *;simp[execOp,go_sem,c.1,c.2,d10,hc0]) rfl (hW.upd (by decide))
        ·have d11:a.eval (.tmp 33)=.bool false:=D 11 rfl _ _ rfl rfl
         exact Rgs.val rfl (Reg.wanted_free rfl) (.bool false) (by have c:=Reg.consts a;generalize a.eval=ρ at *;simp[execOp,go_sem,c.1,c.2,d11]) rfl (hW.upd (by decide))
        ·have dg:a.eval (.tmp 34)=.bool false:=D 12 rfl _ _ rfl rfl
         have e1:a.eval (.tmp 1)=.pointer (some ⟨gb,0,none⟩):=E 1 rfl
         exact Rgs.val rfl (Reg.wanted_if rfl rfl dg rfl) (.pointer (some ⟨gb,0,none⟩)) (by have c:=Reg.consts a;generalize a.eval=ρ at *;simp[execOp,go_sem,c.1,c.2,e1]) rfl (hW.upd (by decide))
        ·have dg:a.eval (.tmp 34)=.bool false:=D 12 rfl _ _ rfl rfl
         have d13:a.eval (.tmp 35)=.pointer (some ⟨gb,0,none⟩):=D 13 rfl _ _ rfl rfl
         have l16:=Reg.not_live C h0 (j:=16) rfl rfl
         have l17:=Reg.not_live C l16 (j:=17) rfl rfl
         have l18:=Reg.not_live C l17 (j:=18) rfl rfl
         have l19:=Reg.not_live C l18 (j:=19) rfl rfl
         have l26:=Reg.not_live C l19 (j:=26) rfl rfl
         have l27:=Reg.not_live C l26 (j:=27) rfl rfl
         have l29:=Reg.not_live C l27 (j:=29) rfl rfl
         have hw:=hW.off l29
         subst hw
         have hc0:=b0
         exact Rgs.val rfl (Reg.wanted_if rfl rfl dg rfl) (.slice (some ad) n1 c1) (by have c:=Reg.consts a;generalize a.eval=ρ at *;simp[execOp,go_sem,c.1,c.2,d13,hc0]) rfl (hW.upd (by decide))
        ·have dg:a.eval (.tmp 34)=.bool false:=D 12 rfl _ _ rfl rfl
         have e4:a.eval (.tmp 4)=.int .i64 (i:Int):=E 4 rfl
         exact Rgs.val rfl (Reg.wanted_if rfl rfl dg rfl) (.int .i64 (i:Int)) (by have c:=Reg.consts a;generalize a.eval=ρ at *;simp[execOp,go_sem,c.1,c.2,e4]) rfl (hW.upd (by decide))
        ·have dg:a.eval (.tmp 34)=.bool false:=D 12 rfl _ _ rfl rfl
         have d14:a.eval (.tmp 36)=.slice (some ad) n1 c1:=D 14 rfl _ _ rfl rfl
         have d15:a.eval (.tmp 37)=.int .i64 (i:Int):=D 15 rfl _ _ rfl rfl
         have i1:=HLT.out
         obtain⟨i1,i2,i3,i4⟩:=i1
         exact Rgs.val rfl (Reg.wanted_if rfl rfl dg rfl) (.pointer (some (ad.add (i*11)))) (by have c:=Reg.consts a;generalize a.eval=ρ at *;simp[execOp,go_sem,c.1,c.2,d14,d15,i1,i2,i3,i4]) rfl (hW.upd (by decide))
        ·have dg:a.eval (.tmp 34)=.bool false:=D 12 rfl _ _ rfl rfl
         have d16:a.eval (.tmp 38)=.pointer (some (ad.add (i*11))):=D 16 rfl _ _ rfl rfl
         exact Rgs.val rfl (Reg.wanted_if rfl rfl dg rfl) (.pointer (some ⟨(ad.add (i*11)).block,(ad.add (i*11)).off+3,none⟩)) (by have c:=Reg.consts a;generalize a.eval=ρ at *;simp[execOp,go_sem,c.1,c.2,d16]) rfl (hW.upd (by decide))
        ·have dg:a.eval (.tmp 34)=.bool false:=D 12 rfl _ _ rfl rfl
         have d17:a.eval (.tmp 39)=.pointer (some ⟨(ad.add (i*11)).block,(ad.add (i*11)).off+3,none⟩):=D 17 rfl _ _ rfl rfl
         have l19:=Reg.not_live C h0 (j:=19) rfl rfl
         have l26:=Reg.not_live C l19 (j:=26) rfl rfl
         have l27:=Reg.not_live C l26 (j:=27) rfl rfl
         have l29:=Reg.not_live C l27 (j:=29) rfl rfl
         have hw:=hW.off l29
         subst hw
         have hc0:=d3
         exact Rgs.val rfl (Reg.wanted_if rfl rfl dg rfl) (.bool true) (by have c:=Reg.consts a;generalize a.eval=ρ at *;simp[execOp,go_sem,c.1,c.2,d17,hc0]) rfl (hW.upd (by decide))
        ·have dg:a.eval (.tmp 34)=.bool false:=D 12 rfl _ _ rfl rfl
         have d18:a.eval (.tmp 40)=.bool true:=D 18 rfl _ _ rfl rfl
         exact Rgs.val rfl (Reg.wanted_if rfl rfl dg rfl) (.bool true) (by have c:=Reg.consts a;generalize a.eval=ρ at *;simp[execOp,go_sem,c.1,c.2,d18]) rfl (hW.upd (by decide))
        ·have dg:a.eval (.tmp 41)=.bool true:=D 19 rfl _ _ rfl rfl
         have e1:a.eval (.tmp 1)=.pointer (some ⟨gb,0,none⟩):=E 1 rfl
         exact Rgs.val rfl (Reg.wanted_if rfl rfl dg rfl) (.pointer (some ⟨gb,0,none⟩)) (by have c:=Reg.consts a;generalize a.eval=ρ at *;simp[execOp,go_sem,c.1,c.2,e1]) rfl (hW.upd (by decide))
        ·have dg:a.eval (.tmp 41)=.bool true:=D 19 rfl _ _ rfl rfl
         have d20:a.eval (.tmp 42)=.pointer (some ⟨gb,0,none⟩):=D 20 rfl _ _ rfl rfl
         have l23:=Reg.not_live C h0 (j:=23) rfl rfl
         have l24:=Reg.not_live C l23 (j:=24) rfl rfl
         have l25:=Reg.not_live C l24 (j:=25) rfl rfl
         have l26:=Reg.not_live C l25 (j:=26) rfl rfl
         have l27:=Reg.not_live C l26 (j:=27) rfl rfl
         have l29:=Reg.not_live C l27 (j:=29) rfl rfl
         have hw:=hW.off l29
         subst hw
         have hc0:=b0
         exact Rgs.val rfl (Reg.wanted_if rfl rfl dg rfl) (.slice (some ad) n1 c1) (by have c:=Reg.consts a;generalize a.eval=ρ at *;simp[execOp,go_sem,c.1,c.2,d20,hc0]) rfl (hW.upd (by decide))
        ·have dg:a.eval (.tmp 41)=.bool true:=D 19 rfl _ _ rfl rfl
         have e5:a.eval (.tmp 5)=.int .i64 (j:Int):=E 5 rfl
         exact Rgs.val rfl (Reg.wanted_if rfl rfl dg rfl) (.int .i64 (j:Int)) (by have c:=Reg.consts a;generalize a.eval=ρ at *;simp[execOp,go_sem,c.1,c.2,e5]) rfl (hW.upd (by decide))
        ·have dg:a.eval (.tmp 41)=.bool true:=D 19 rfl _ _ rfl rfl
         have d21:a.eval (.tmp 43)=.slice (some ad) n1 c1:=D 21 rfl _ _ rfl rfl
         have d22:a.eval (.tmp 44)=.int .i64 (j:Int):=D 22 rfl _ _ rfl rfl
         have i1:=HLT.out
         obtain⟨i1,i2,i3,i4⟩:=i1
         exact Rgs.val rfl (Reg.wanted_if rfl rfl dg rfl) (.pointer (some (ad.add (j*11)))) (by have c:=Reg.consts a;generalize a.eval=ρ at *;simp[execOp,go_sem,c.1,c.2,d21,d22,i1,i2,i3,i4]) rfl (hW.upd (by decide))
        ·have dg:a.eval (.tmp 41)=.bool true:=D 19 rfl _ _ rfl rfl
         have d23:a.eval (.tmp 45)=.pointer (some (ad.add (j*11))):=D 23 rfl _ _ rfl rfl
         exact Rgs.val rfl (Reg.wanted_if rfl rfl dg rfl) (.pointer (some ⟨(ad.add (j*11)).block,(ad.add (j*11)).off+3,none⟩)) (by have c:=Reg.consts a;generalize a.eval=ρ at *;simp[execOp,go_sem,c.1,c.2,d23]) rfl (hW.upd (by decide))
        ·have dg:a.eval (.tmp 41)=.bool true:=D 19 rfl _ _ rfl rfl
         have d24:a.eval (.tmp 46)=.pointer (some ⟨(ad.add (j*11)).block,(ad.add (j*11)).off+3,none⟩):=D 24 rfl _ _ rfl rfl
         have l26:=Reg.not_live C h0 (j:=26) rfl rfl
         have l27:=Reg.not_live C l26 (j:=27) rfl rfl
         have l29:=Reg.not_live C l27 (j:=29) rfl rfl
         have hw:=hW.off l29
         subst hw
         have hc0:=e3
         exact Rgs.val rfl (Reg.wanted_if rfl rfl dg rfl) (.bool sc') (by have c:=Reg.consts a;generalize a.eval=ρ at *;simp[execOp,go_sem,c.1,c.2,d24,hc0]) rfl (hW.upd (by decide))
        ·have dg:a.eval (.tmp 34)=.bool false:=D 12 rfl _ _ rfl rfl
         have d19:a.eval (.tmp 41)=.bool true:=D 19 rfl _ _ rfl rfl
         have d25:a.eval (.tmp 47)=.bool sc':=D 25 rfl _ _ rfl rfl
         exact Rgs.val rfl (Reg.wanted_if rfl rfl dg rfl) (.bool sc') (by have c:=Reg.consts a;generalize a.eval=ρ at *;simp[execOp,go_sem,c.1,c.2,d19,d25]) rfl (hW.upd (by decide))
        ·have d12:a.eval (.tmp 34)=.bool false:=D 12 rfl _ _ rfl rfl
         have d26:a.eval (.tmp 48)=.bool sc':=D 26 rfl _ _ rfl rfl
         exact Rgs.val rfl (Reg.wanted_free rfl) (.bool sc') (by have c:=Reg.consts a;generalize a.eval=ρ at *;simp[execOp,go_sem,c.1,c.2,d12,d26]) rfl (hW.upd (by decide))
        ·have d3:a.eval (.tmp 25)=.slice (some ⟨y,0,none⟩) n1 n1:=D 3 rfl _ _ rfl rfl
         have d4:a.eval (.tmp 26)=.int .i64 (j:Int):=D 4 rfl _ _ rfl rfl
         have i1:=HLT.out
         obtain⟨i1,i2,i3,i4⟩:=i1
         have ead:=mk_add (y) (j)
         exact Rgs.val rfl (Reg.wanted_free rfl) (.pointer (some ⟨y,j,none⟩)) (by have c:=Reg.consts a;generalize a.eval=ρ at *;simp[execOp,go_sem,c.1,c.2,d3,d4,i1,i2,i3,i4,ead]) rfl (hW.upd (by decide))
        ·have d28:a.eval (.tmp 50)=.pointer (some ⟨y,j,none⟩):=D 28 rfl _ _ rfl rfl
         have d27:a.eval (.tmp 49)=.bool sc':=D 27 rfl _ _ rfl rfl
         have hw:=hW.off h0
         subst hw
         have hc0:=f1
         have hfz:=f2
         refine Rgs.store rfl (Reg.wanted_free rfl) _ (by have c:=Reg.consts a;generalize a.eval=ρ at *;simp[execOp,go_sem,c.1,c.2,d28,d27,hc0,hfz]) rfl (Rgs.StW.put _ _ _ _ _) (fun j v _ h=>h)
       ·intro a w3 live hs hd E D' Hl hW
        rw[Rgs.act_ws a _ _ hs hd E [22,23,24,25,26,27,28,29,30,31,32,33,34,35,36,37,38,39,40,41,42,43,44,45,46,47,48,49,50] (by kernel_rfl)]
        simp only[List.foldl,List.setIfInBounds_toArray,List.set_cons_succ,List.set_cons_zero]
        have hw:=Rgs.StW.on hW (Hl 29 (by decide))
        subst hw
        clear E D' Hl hW
        generalize a.eval=ρ
        clear a hs hd f0 f1 f2 b0 b1 b2 d3 d4 e3
        go_wp2_with fail
        go_roundw
        case rel=>exact⟨j+1,by omega,by go_num,HST.out _ rfl⟩
        case measure=>simp[intOf];omega
    ·have hjni:¬ (j:Int) < (n1:Int):=by omega
     obtain rfl:n1=j:=by omega
     have HM2:=hid (hM.congr fun a b _ hb=>mQ_row hb)
     have HBX:=hid hb
     clear hM hb
     go_wp2_with fail
     go_roundw
     case rel=>exact⟨i+1,by omega,by go_num,HM2.out,HBX.out⟩
     case measure=>simp[intOf];omega
  ·have hlti:¬ (i:Int) < (n1:Int):=by omega
   obtain rfl:n1=i:=by omega
   have HM:=hid (hM.congr (m':=fun a b=>mQ (fun a b=>decide (a=b)) (schQ P) n1 0 a b || dC n1 ((C.take 0).map chOf) a b) fun a b _ _=>by simp[dC])
   have HBB:=hid hb
   obtain⟨b0,b1,b2⟩:=(HBOX.out.below (HB.out▸hb) (HB.out▸(HBOX.out.lt))).three
   clear hM hb
   go_wp2_with fail
   clear b0 b1 b2
   go_loopw [7,56] (fun _ s wx=>∃ k:Nat,k≤n2∧s=.int .i64 k∧Mat wx B g n1 n1 G (fun a b=>mQ (fun a b=>decide (a=b)) (schQ P) n1 0 a b || dC n1 ((C.take k).map chOf) a b)∧Below B W wx) (fun _ s _=>n2 - (intOf s).toNat)
   case atStart=>exact⟨0,by omega,rfl,HM.out,HBB.out⟩
   case round =>
    obtain⟨k,hk,rfl,hM,hb⟩:=hrel
    clear HM HBB
    by_cases hkn:k < n2
    ·have hkni:(k:Int) < (n2:Int):=by omega
     obtain⟨ad,x,rfl,had,hx,c0,ck⟩:=(HCF.out.c.below (HB.out▸hb)).at_ cc_len (by omega) hkn
     have d0:=c0 _ rfl
     have d1:=ck 1 _ (by omega) rfl
     have d2:=ck 2 _ (by omega) rfl
     have d3:=ck 3 _ (by omega) rfl
     have d4:=ck 4 _ (by omega) rfl
     have d5:=ck 5 _ (by omega) rfl
     have HOUT:Hid ((inP n1 (chOf x).from_ && inP n1 (chOf x).to_)=false→∀ a b,(mQ (fun a b=>decide (a=b)) (schQ P) n1 0 a b || dC n1 ((C.take k).map chOf) a b)=(mQ (fun a b=>decide (a=b)) (schQ P) n1 0 a b || dC n1 ((C.take (k+1)).map chOf) a b)):=hid fun h a b=>dC_out hx h _ a b
     have HIN:=hid fun(f t:Nat) (hf:(chOf x).from_=(f:Int)) (ht:(chOf x).to_=(t:Int)) (h1:f < n1) (h2:t < n1)=>dC_in hx hf ht h1 h2 (mQ (fun a b=>decide (a=b)) (schQ P) n1 0)
     obtain⟨xf,xt,xq,xc,xm,xl⟩:=x
     dsimp only[chOf] at d0 d1 d2 d3 d4 d5 HOUT HIN
     have hbx:=bl1 wr (.cells #[.int .i64 xf,.int .i64 xt,.bool xq,.int .i64 xc,.int .u32 xm,.int .i64 xl] 42)
     have hB1:B≤wr.heap.size:=by have:=hb.size;have:=HB.out;omega
     have hb1:=hb.trans (hbx.mono hB1)
     have f0:(wr.alloc (.cells #[.int .i64 xf,.int .i64 xt,.bool xq,.int .i64 xc,.int .u32 xm,.int .i64 xl] 42)).cell? ⟨wr.heap.size,0,none⟩=some (.int .i64 xf):=World.cell?_alloc_mark _ _ _ _ _
     have f1:(wr.alloc (.cells #[.int .i64 xf,.int .i64 xt,.bool xq,.int .i64 xc,.int .u32 xm,.int .i64 xl] 42)).cell? ⟨wr.heap.size,1,none⟩=some (.int .i64 xt):=World.cell?_alloc_mark _ _ _ _ _
     have f2:(wr.alloc (.cells #[.int .i64 xf,.int .i64 xt,.bool xq,.int .i64 xc,.int .u32 xm,.int .i64 xl] 42)).cell? ⟨wr.heap.size,2,none⟩=some (.bool xq):=World.cell?_alloc_mark _ _ _ _ _
     have hgx:wr.heap.size < (wr.alloc (.cells #[.int .i64 xf,.int .i64 xt,.bool xq,.int .i64 xc,.int .u32 xm,.int .i64 xl] 42)).heap.size:=by simp
     have hne:g≠wr.heap.size∧∀ i,i < n1→G i≠wr.heap.size:=by
      obtain⟨f,hf,_⟩:=hM.outer
      have:=hf.lt
      exact⟨by omega,fun i hi=>by have:=(hM.rows i hi).lt;omega⟩
     have HM:=hid (hM.on hbx)
     have HBB:=hid hb1
     clear hM hb hx c0 ck hbx hb1 hB1
     go_upto_region 14 with fail
     generalize wr.alloc (.cells #[.int .i64 xf,.int .i64 xt,.bool xq,.int .i64 xc,.int .u32 xm,.int .i64 xl] 42)=W1 at HM HBB f0 f1 f2 hgx ⊢
     generalize wr.heap.size=gx at f0 f1 f2 hgx hne ⊢
     clear d0 d1 d2 d3 d4 d5
     obtain⟨b0,b1,b2⟩:=(HBOX.out.below (HB.out▸HBB.out) (HB.out▸(HBOX.out.lt))).three
     go_wp2_with fail
     refine(in_any A1 (some ad) A3 n1 n2 n3 c1 c2 c3 xf W1).mono ?_
     rintro e w4 ⟨rfl,hb4⟩
     have HM4:=hid (HM.out.on hb4)
     have HB4:=hid (HBB.out.trans (hb4.mono (by have h1:=HBB.out.size;have h2:=HB.out;omega)))
     have f0:=(hb4.cell (p:=⟨gx,0,none⟩) hgx).trans f0
     have f1:=(hb4.cell (p:=⟨gx,1,none⟩) hgx).trans f1
     have f2:=(hb4.cell (p:=⟨gx,2,none⟩) hgx).trans f2
     have hgx:=Nat.lt_of_lt_of_le hgx hb4.size
     obtain⟨b0,b1,b2⟩:=(HBOX.out.below (HB.out▸HB4.out) (HB.out▸(HBOX.out.lt))).three
     clear HM HBB hb4
     cases hif:inP n1 xf with
     | false =>
      rw[hif] at HOUT
      have HM5:=hid (HM4.out.congr fun a b _ _=>HOUT.out rfl a b)
      go_wp2_with fail
      go_roundw
      case rel=>exact⟨k+1,by omega,by go_num,HM5.out,HB4.out⟩
      case measure=>simp[intOf];omega
     | true =>
      go_wp2_with fail
      refine(in_any A1 (some ad) A3 n1 n2 n3 c1 c2 c3 xt w4).mono ?_
      rintro e w5 ⟨rfl,hb5⟩
      have HM5:=hid (HM4.out.on hb5)
      have HB5:=hid (HB4.out.trans (hb5.mono (by have h1:=HB4.out.size;have h2:=HB.out;omega)))
      have f0:=(hb5.cell (p:=⟨gx,0,none⟩) hgx).trans f0
      have f1:=(hb5.cell (p:=⟨gx,1,none⟩) hgx).trans f1
      have f2:=(hb5.cell (p:=⟨gx,2,none⟩) hgx).trans f2
      have hgx:=Nat.lt_of_lt_of_le hgx hb5.size
      clear HM4 HB4 hb5 b0 b1 b2
      cases hit:inP n1 xt with
      | false =>
       rw[hif,hit] at HOUT
       have HM6:=hid (HM5.out.congr fun a b _ _=>HOUT.out rfl a b)
       go_wp2_with fail
       go_roundw
       case rel=>exact⟨k+1,by omega,by go_num,HM6.out,HB5.out⟩
       case measure=>simp[intOf];omega
      | true =>
       rw[inP_iff] at hif hit
       obtain⟨f,rfl⟩:∃ f:Nat,xf=f:=⟨xf.toNat,by omega⟩
       obtain⟨t,rfl⟩:∃ t:Nat,xt=t:=⟨xt.toNat,by omega⟩
       have hfn:f < n1:=by omega
       have htn:t < n1:=by omega
       have hfi:(f:Int) < (n1:Int):=by omega
       have hti:(t:Int) < (n1:Int):=by omega
       have HIN:=hid (HIN.out f t rfl rfl hfn htn)
       clear hif hit HOUT
       have HM5d:=hid (HM5.out.on (w':=w5.drew) (Below.refl _ _).drew)
       obtain⟨x,hx,hxg,hBx,hgl,hxl,e0,e1,e2,hst⟩:=HM5d.out.at_ (i:=f) (j:=t) hfn (Nat.le_refl _) htn
       obtain⟨hM2,hB2⟩:=hst true
       have hxgx:x≠gx:=by rw[← hx];exact hne.2 f hfn
       obtain⟨y,hy,hyg,hBy,hgl2,hyl,k0,k1,k2,hst2⟩:=hM2.at_ (i:=t) (j:=f) htn (Nat.le_refl _) hfn
       obtain⟨hM3,hB3⟩:=hst2 true
       obtain⟨y',hy',_,_,_,_,k0',_⟩:=HM5d.out.at_ (i:=t) (j:=f) htn (Nat.le_refl _) hfn
       obtain rfl:y=y':=by rw[← hy,← hy']
       have hygx:y≠gx:=by rw[← hy];exact hne.2 t htn
       have HFA:Hid (∀ w',(w'=w5.drew∨w'=w5.drew.setCell ⟨x,t,none⟩ (.bool true)∨w'=(w5.drew.setCell ⟨x,t,none⟩ (.bool true)).setCell ⟨y,f,none⟩ (.bool true))→w'.cell? ⟨gx,0,none⟩=some (.int .i64 (f:Int))∧w'.cell? ⟨gx,1,none⟩=some (.int .i64 (t:Int))∧w'.cell? ⟨g,f,none⟩=some (.slice (some ⟨x,0,none⟩) n1 n1)∧w'.cell? ⟨g,t,none⟩=some (.slice (some ⟨y,0,none⟩) n1 n1)):=hid fun w' hw=>by
        have n1':∀(o o':Nat),(⟨gx,o,none⟩:Addr)≠⟨x,o',none⟩:=fun o o' e=>by injection e with e;exact hxgx e.symm
        have n2':∀(o o':Nat),(⟨gx,o,none⟩:Addr)≠⟨y,o',none⟩:=fun o o' e=>by injection e with e;exact hygx e.symm
        have n3':∀(o o':Nat),(⟨g,o,none⟩:Addr)≠⟨x,o',none⟩:=fun o o' e=>by injection e with e;exact hxg e.symm
        have n4':∀(o o':Nat),(⟨g,o,none⟩:Addr)≠⟨y,o',none⟩:=fun o o' e=>by injection e with e;exact hyg e.symm
        rcases hw with rfl | rfl | rfl
        ·exact⟨f0,f1,e0,k0'⟩
        ·refine⟨?_,?_,?_,?_⟩
         ·rw[World.cell?_setCell_other _ _ _ _ (by first | exact(n1' _ _).symm | exact n1' _ _)];exact f0
         ·rw[World.cell?_setCell_other _ _ _ _ (by first | exact(n1' _ _).symm | exact n1' _ _)];exact f1
         ·rw[World.cell?_setCell_other _ _ _ _ (by first | exact(n3' _ _).symm | exact n3' _ _)];exact e0
         ·rw[World.cell?_setCell_other _ _ _ _ (by first | exact(n3' _ _).symm | exact n3' _ _)];exact k0'
        ·refine⟨?_,?_,?_,?_⟩
         ·rw[World.cell?_setCell_other _ _ _ _ (by first | exact(n2' _ _).symm | exact n2' _ _),World.cell?_setCell_other _ _ _ _ (by first | exact(n1' _ _).symm | exact n1' _ _)];exact f0
         ·rw[World.cell?_setCell_other _ _ _ _ (by first | exact(n2' _ _).symm | exact n2' _ _),World.cell?_setCell_other _ _ _ _ (by first | exact(n1' _ _).symm | exact n1' _ _)];exact f1
         ·rw[World.cell?_setCell_other _ _ _ _ (by first | exact(n4' _ _).symm | exact n4' _ _),World.cell?_setCell_other _ _ _ _ (by first | exact(n3' _ _).symm | exact n3' _ _)];exact e0
         ·rw[World.cell?_setCell_other _ _ _ _ (by first | exact(n4' _ _).symm | exact n4' _ _),World.cell?_setCell_other _ _ _ _ (by first | exact(n3' _ _).symm | exact n3' _ _)];exact k0'
       have HM6:=hid (hM3.congr fun a b _ _=>HIN.out a b)
       have HB6:=hid (hB3 _ (hB2 _ HB5.out.drew))
       have HLT:Hid (f < n1∧t < n1∧(f:Int) < (n1:Int)∧(t:Int) < (n1:Int)):=hid ⟨hfn,htn,hfi,hti⟩
       clear hst hst2 hM2 hB2 hM3 hB3 hgl hgl2 hxl hyl hBx hBy f2 k0
       generalize (mQ (fun a b=>decide (a=b)) (schQ P) n1 0 f t || dC n1 ((C.take k).map chOf) f t)=v1 at e1
       generalize put2 (fun a b=>mQ (fun a b=>decide (a=b)) (schQ P) n1 0 a b || dC n1 ((C.take k).map chOf) a b) f t true t f=v2 at k1
       go_wp2_with fail
       refine Rgs.region (by kernel_rfl) (by kernel_rfl) (fun(opn:Nat) (vl:Value) (_:World)=>match opn with | 0=>vl=.slice (some ⟨g,0,none⟩) n1 n1 | 1=>vl=.pointer (some ⟨gx,0,none⟩) | 2=>vl=.int .i64 (f:Int) | 3=>vl=.pointer (some ⟨g,f,none⟩) | 4=>vl=.slice (some ⟨x,0,none⟩) n1 n1 | 5=>vl=.pointer (some ⟨gx,1,none⟩) | 6=>vl=.int .i64 (t:Int) | 7=>vl=.slice (some ⟨g,0,none⟩) n1 n1 | 8=>vl=.pointer (some ⟨gx,1,none⟩) | 9=>vl=.int .i64 (t:Int) | 10=>vl=.pointer (some ⟨g,t,none⟩) | 11=>vl=.slice (some ⟨y,0,none⟩) n1 n1 | 12=>vl=.pointer (some ⟨gx,0,none⟩) | 13=>vl=.int .i64 (f:Int) | 14=>vl=.pointer (some ⟨x,t,none⟩) | 15=>vl=undef | 16=>vl=.pointer (some ⟨y,f,none⟩) | 17=>vl=undef | _=>True) (fun live _ w'=>Rgs.StW2 w5.drew 15 17 ⟨x,t,none⟩ ⟨y,f,none⟩ (.bool true) (.bool true) live w') rfl (Rgs.steps_of ?_) ?_
       ·refine⟨?_,?_,?_,?_,?_,?_,?_,?_,?_,?_,?_,?_,?_,?_,?_,?_,?_,?_,trivial⟩ <;> intro a w1 live S E D C h0 hk hW
        ·have e3:a.eval (.tmp 3)=.slice (some ⟨g,0,none⟩) n1 n1:=E 3 rfl
         exact Rgs.val rfl (Reg.wanted_free rfl) (.slice (some ⟨g,0,none⟩) n1 n1) (by have c:=Reg.consts a;generalize a.eval=ρ at *;simp[execOp,go_sem,c.1,c.2,e3]) rfl (hW.upd (by decide) (by decide))
        ·have e7:a.eval (.tmp 7)=.pointer (some ⟨gx,0,none⟩):=E 7 rfl
         exact Rgs.val rfl (Reg.wanted_free rfl) (.pointer (some ⟨gx,0,none⟩)) (by have c:=Reg.consts a;generalize a.eval=ρ at *;simp[execOp,go_sem,c.1,c.2,e7]) rfl (hW.upd (by decide) (by decide))
        ·have d1:a.eval (.tmp 71)=.pointer (some ⟨gx,0,none⟩):=D 1 rfl _ _ rfl rfl
         have hc0:=(HFA.out w1 hW.any).1
         exact Rgs.val rfl (Reg.wanted_free rfl) (.int .i64 (f:Int)) (by have c:=Reg.consts a;generalize a.eval=ρ at *;simp[execOp,go_sem,c.1,c.2,d1,hc0]) rfl (hW.upd (by decide) (by decide))
        ·have d0:a.eval (.tmp 70)=.slice (some ⟨g,0,none⟩) n1 n1:=D 0 rfl _ _ rfl rfl
         have d2:a.eval (.tmp 72)=.int .i64 (f:Int):=D 2 rfl _ _ rfl rfl
         have i1:=HLT.out
         obtain⟨i1,i2,i3,i4⟩:=i1
         have ead:=mk_add (g) (f)
         exact Rgs.val rfl (Reg.wanted_free rfl) (.pointer (some ⟨g,f,none⟩)) (by have c:=Reg.consts a;generalize a.eval=ρ at *;simp[execOp,go_sem,c.1,c.2,d0,d2,i1,i2,i3,i4,ead]) rfl (hW.upd (by decide) (by decide))
        ·have d3:a.eval (.tmp 73)=.pointer (some ⟨g,f,none⟩):=D 3 rfl _ _ rfl rfl
         have hc0:=(HFA.out w1 hW.any).2.2.1
         exact Rgs.val rfl (Reg.wanted_free rfl) (.slice (some ⟨x,0,none⟩) n1 n1) (by have c:=Reg.consts a;generalize a.eval=ρ at *;simp[execOp,go_sem,c.1,c.2,d3,hc0]) rfl (hW.upd (by decide) (by decide))
        ·have e7:a.eval (.tmp 7)=.pointer (some ⟨gx,0,none⟩):=E 7 rfl
         exact Rgs.val rfl (Reg.wanted_free rfl) (.pointer (some ⟨gx,1,none⟩)) (by have c:=Reg.consts a;generalize a.eval=ρ at *;simp[execOp,go_sem,c.1,c.2,e7]) rfl (hW.upd (by decide) (by decide))
        ·have d5:a.eval (.tmp 75)=.pointer (some ⟨gx,1,none⟩):=D 5 rfl _ _ rfl rfl
         have hc0:=(HFA.out w1 hW.any).2.1
         exact Rgs.val rfl (Reg.wanted_free rfl) (.int .i64 (t:Int)) (by have c:=Reg.consts a;generalize a.eval=ρ at *;simp[execOp,go_sem,c.1,c.2,d5,hc0]) rfl (hW.upd (by decide) (by decide))
        ·have e3:a.eval (.tmp 3)=.slice (some ⟨g,0,none⟩) n1 n1:=E 3 rfl
         exact Rgs.val rfl (Reg.wanted_free rfl) (.slice (some ⟨g,0,none⟩) n1 n1) (by have c:=Reg.consts a;generalize a.eval=ρ at *;simp[execOp,go_sem,c.1,c.2,e3]) rfl (hW.upd (by decide) (by decide))
        ·have e7:a.eval (.tmp 7)=.pointer (some ⟨gx,0,none⟩):=E 7 rfl
         exact Rgs.val rfl (Reg.wanted_free rfl) (.pointer (some ⟨gx,1,none⟩)) (by have c:=Reg.consts a;generalize a.eval=ρ at *;simp[execOp,go_sem,c.1,c.2,e7]) rfl (hW.upd (by decide) (by decide))
        ·have d8:a.eval (.tmp 78)=.pointer (some ⟨gx,1,none⟩):=D 8 rfl _ _ rfl rfl
         have hc0:=(HFA.out w1 hW.any).2.1
         exact Rgs.val rfl (Reg.wanted_free rfl) (.int .i64 (t:Int)) (by have c:=Reg.consts a;generalize a.eval=ρ at *;simp[execOp,go_sem,c.1,c.2,d8,hc0]) rfl (hW.upd (by decide) (by decide))
        ·have d7:a.eval (.tmp 77)=.slice (some ⟨g,0,none⟩) n1 n1:=D 7 rfl _ _ rfl rfl
         have d9:a.eval (.tmp 79)=.int .i64 (t:Int):=D 9 rfl _ _ rfl rfl
         have i1:=HLT.out
         obtain⟨i1,i2,i3,i4⟩:=i1
         have ead:=mk_add (g) (t)
         exact Rgs.val rfl (Reg.wanted_free rfl) (.pointer (some ⟨g,t,none⟩)) (by have c:=Reg.consts a;generalize a.eval=ρ at *;simp[execOp,go_sem,c.1,c.2,d7,d9,i1,i2,i3,i4,ead]) rfl (hW.upd (by decide) (by decide))
        ·have d10:a.eval (.tmp 80)=.pointer (some ⟨g,t,none⟩):=D 10 rfl _ _ rfl rfl
         have hc0:=(HFA.out w1 hW.any).2.2.2
         exact Rgs.val rfl (Reg.wanted_free rfl) (.slice (some ⟨y,0,none⟩) n1 n1) (by have c:=Reg.consts a;generalize a.eval=ρ at *;simp[execOp,go_sem,c.1,c.2,d10,hc0]) rfl (hW.upd (by decide) (by decide))
        ·have e7:a.eval (.tmp 7)=.pointer (some ⟨gx,0,none⟩):=E 7 rfl
         exact Rgs.val rfl (Reg.wanted_free rfl) (.pointer (some ⟨gx,0,none⟩)) (by have c:=Reg.consts a;generalize a.eval=ρ at *;simp[execOp,go_sem,c.1,c.2,e7]) rfl (hW.upd (by decide) (by decide))
        ·have d12:a.eval (.tmp 82)=.pointer (some ⟨gx,0,none⟩):=D 12 rfl _ _ rfl rfl
         have hc0:=(HFA.out w1 hW.any).1
         exact Rgs.val rfl (Reg.wanted_free rfl) (.int .i64 (f:Int)) (by have c:=Reg.consts a;generalize a.eval=ρ at *;simp[execOp,go_sem,c.1,c.2,d12,hc0]) rfl (hW.upd (by decide) (by decide))
        ·have d4:a.eval (.tmp 74)=.slice (some ⟨x,0,none⟩) n1 n1:=D 4 rfl _ _ rfl rfl
         have d6:a.eval (.tmp 76)=.int .i64 (t:Int):=D 6 rfl _ _ rfl rfl
         have i1:=HLT.out
         obtain⟨i1,i2,i3,i4⟩:=i1
         have ead:=mk_add (x) (t)
         exact Rgs.val rfl (Reg.wanted_free rfl) (.pointer (some ⟨x,t,none⟩)) (by have c:=Reg.consts a;generalize a.eval=ρ at *;simp[execOp,go_sem,c.1,c.2,d4,d6,i1,i2,i3,i4,ead]) rfl (hW.upd (by decide) (by decide))
        ·have d14:a.eval (.tmp 84)=.pointer (some ⟨x,t,none⟩):=D 14 rfl _ _ rfl rfl
         have l17:=Reg.not_live C h0 (j:=17) rfl rfl
         have hw:=hW.off h0 l17
         subst hw
         refine Rgs.store rfl (Reg.wanted_free rfl) _ (by have c:=Reg.consts a;generalize a.eval=ρ at *;simp[execOp,go_sem,c.1,c.2,d14,e1,e2]) rfl (Rgs.StW2.put1 _ (by decide) _ _ _ _ _ l17) (fun j v _ h=>h)
        ·have d11:a.eval (.tmp 81)=.slice (some ⟨y,0,none⟩) n1 n1:=D 11 rfl _ _ rfl rfl
         have d13:a.eval (.tmp 83)=.int .i64 (f:Int):=D 13 rfl _ _ rfl rfl
         have i1:=HLT.out
         obtain⟨i1,i2,i3,i4⟩:=i1
         have ead:=mk_add (y) (f)
         exact Rgs.val rfl (Reg.wanted_free rfl) (.pointer (some ⟨y,f,none⟩)) (by have c:=Reg.consts a;generalize a.eval=ρ at *;simp[execOp,go_sem,c.1,c.2,d11,d13,i1,i2,i3,i4,ead]) rfl (hW.upd (by decide) (by decide))
        ·have d16:a.eval (.tmp 85)=.pointer (some ⟨y,f,none⟩):=D 16 rfl _ _ rfl rfl
         have hw:=hW.mid (hk 15 rfl) h0
         subst hw
         refine Rgs.store rfl (Reg.wanted_free rfl) ((w5.drew.setCell ⟨x,t,none⟩ (.bool true)).setCell ⟨y,f,none⟩ (.bool true)) ?_ rfl (Rgs.StW2.put2 _ _ _ _ _ _ _ _) (fun j v _ h=>h)
         obtain⟨wz,hwz⟩:∃ wz,wz=w5.drew.setCell ⟨x,t,none⟩ (.bool true):=⟨_,rfl⟩
         rw[← hwz] at k1 k2 ⊢
         clear hwz
         have c:=Reg.consts a
         generalize a.eval=ρ at *
         simp[execOp,go_sem,c.1,c.2,d16,k1,k2]
       ·intro a w3 live hs hd E D' Hl hW
        rw[Rgs.act_ws a _ _ hs hd E [70,71,72,73,74,75,76,77,78,79,80,81,82,83,84,85] (by kernel_rfl)]
        simp only[List.foldl,List.setIfInBounds_toArray,List.set_cons_succ,List.set_cons_zero]
        have hw:=hW.on (Hl 17 (by decide))
        subst hw
        clear E D' Hl hW e1 e2 k1 k2
        generalize a.eval=ρ
        clear a hs hd
        go_wp2_with fail
        go_roundw
        case rel=>exact⟨k+1,by omega,by go_num,HM6.out,HB6.out⟩
        case measure=>simp[intOf];omega
    ·have hkni:¬ (k:Int) < (n2:Int):=by omega
     have hk2:n2≤k:=by omega
     have hfin:=(hM.congr (m':=depF (P.map ptOf) (C.map chOf)) fun a b ha _=>by
      rw[mQ_all ha,List.take_of_length_le (by rw[HCF.out.c.len];exact hk2)]
      unfold depF dC schQ
      rw[List.length_map,HLEN.out]).weak (B':=w.heap.size) (by rw[HB.out];exact HB0.out.size)
     have hbf:=HB0.out.trans (hb.mono (by rw[HB.out];exact HB0.out.size))
     have HFIN:=hid hfin
     clear hM hb hfin
     go_wp2_with fail
     go_ret
     exact⟨g,G,rfl,HFIN.out,hbf⟩
def MtX (n:Nat) (m:Nat→Nat→Bool) (v:Value) (w:World):Prop:=∃ A c,v=.slice A n c∧n≤c∧RdM w w.heap.size A n (fun _=>n) m
theorem MtX.on {n:Nat} {m:Nat→Nat→Bool} {v:Value} {w w':World} (h:MtX n m v w) (hb:Below w.heap.size w w'):MtX n m v w':=by
 obtain⟨A,c,h1,h2,h3⟩:=h
 exact⟨A,c,h1,h2,h3.on hb⟩
def RowX (R:List Rn) (v:Value) (w:World):Prop:=∃ A c,v=.slice A R.length c∧R.length≤c∧RdR w w.heap.size A R.length R
theorem RowX.on {R:List Rn} {v:Value} {w w':World} (h:RowX R v w) (hb:Below w.heap.size w w'):RowX R v w':=by
 obtain⟨A,c,h1,h2,h3⟩:=h
 exact⟨A,c,h1,h2,h3.on hb⟩
theorem doZ_len (L:List Rn) (I J:Int) (rt:Bool):(doZ L I J rt).length≤L.length:=by
 unfold doZ
 split
 ·exact Nat.le_trans (tidy_le _) (by rw[mv_len];exact Nat.le_refl _)
 ·exact Nat.le_refl _
theorem doZ_ticks (L:List Rn) (I J:Int) (rt:Bool):ticks (doZ L I J rt)=ticks L:=by
 unfold doZ
 split
 ·rename_i h
  rw[ticks_tidy]
  have h1:I.toNat < J.toNat:=by omega
  have h2:J.toNat < L.length:=by omega
  exact mv_ticks h1 (List.getElem?_eq_getElem (by omega)) (List.getElem?_eq_getElem h2) rt
 ·rfl
def fitZ (P:List PtV) (C:List ChV) (L:List Rn) (I J:Int) (rt:Bool):Bool:=mayZ (depW P.length (depF (P.map ptOf) (C.map chOf))) (L.map Rn.p) I J && decide (holdsF (wordsL (doZ L I J rt)) P C=0)
structure Mo where
 i:Nat
 j:Nat
 r:Bool
def mcl (x:Mo):List Value:=[.int .i64 (x.i:Int),.int .i64 (x.j:Int),.bool x.r]
theorem mcl_len (x:Mo):(mcl x).length=3:=rfl
theorem mcl_one (l:List Mo):∀ u∈l.flatMap mcl,u.oneCell'=true:=by
 intro u hu
 obtain⟨x,_,hx⟩:=List.mem_flatMap.1 hu
 simp[mcl] at hx
 rcases hx with rfl | rfl | rfl <;> rfl
def twoM (D:Int→Int→Bool) (ps:List Int) (i j:Nat):List Mo:=if mayP D ps i j=true then [⟨i,j,false⟩,⟨i,j,true⟩] else []
def allJ (D:Int→Int→Bool) (ps:List Int) (i:Nat):Nat→Nat→List Mo
 | 0,_=>[]
 | f+1,j=>twoM D ps i j++allJ D ps i f (j+1)
def allI (D:Int→Int→Bool) (ps:List Int):Nat→Nat→List Mo
 | 0,_=>[]
 | f+1,i=>allJ D ps i (ps.length - (i+1)) (i+1)++allI D ps f (i+1)
def allF (D:Int→Int→Bool) (ps:List Int):List Mo:=allI D ps ps.length 0
theorem twoM_le (D:Int→Int→Bool) (ps:List Int) (i j:Nat):(twoM D ps i j).length≤2:=by
 unfold twoM
 split <;> simp
theorem allJ_le (D:Int→Int→Bool) (ps:List Int) (i:Nat):∀ f j,(allJ D ps i f j).length≤2*f:=by
 intro f
 induction f with
 | zero=>intro j;exact Nat.le_refl _
 | succ f ih =>
  intro j
  unfold allJ
  rw[List.length_append]
  have h1:=twoM_le D ps i j
  have h2:=ih (j+1)
  omega
theorem allI_le (D:Int→Int→Bool) (ps:List Int):∀ f i,(allI D ps f i).length≤f*(2*ps.length):=by
 intro f
 induction f with
 | zero=>intro i;exact Nat.zero_le _
 | succ f ih =>
  intro i
  unfold allI
  rw[List.length_append,Nat.succ_mul]
  have h1:=allJ_le D ps i (ps.length - (i+1)) (i+1)
  have h2:=ih (i+1)
  omega
theorem allF_le {D:Int→Int→Bool} {ps:List Int} (h:ps.length≤1024):(allF D ps).length≤2097152:=by
 have h1:=allI_le D ps ps.length 0
 have h2:ps.length*(2*ps.length)≤1024*(2*1024):=Nat.mul_le_mul h (by omega)
 unfold allF
 omega
theorem allJ_step (D:Int→Int→Bool) (ps:List Int) (i:Nat) {j n:Nat} (h:j < n):allJ D ps i (n - j) j=twoM D ps i j++allJ D ps i (n - (j+1)) (j+1):=by
 have e:n - j=(n - (j+1))+1:=by omega
 rw[e]
 rfl
theorem allI_step (D:Int→Int→Bool) (ps:List Int) {i:Nat} (h:i < ps.length):allI D ps (ps.length - i) i=allJ D ps i (ps.length - (i+1)) (i+1)++allI D ps (ps.length - (i+1)) (i+1):=by
 have e:ps.length - i=(ps.length - (i+1))+1:=by omega
 rw[e]
 rfl
theorem elRm:Elt 106 108 3 24 (.agg #[.int .i64 0,.int .i64 0,.bool false]):=⟨Tryz.underlying106,by kernel_rfl,rfl,by omega⟩
def RowM (E:Nat) (l:List Mo) (w:World) (e:Ending) (w':World):Prop:=∃ A c,e=.returned (.slice A l.length c)∧OwnB E 3 mcl w' w.heap.size A l.length c l∧Below w.heap.size w w'
theorem mayZ_nat (D:Int→Int→Bool) {ps:List Int} {i j:Nat} (hij:i < j) (hj:j < ps.length):mayZ D ps (i:Int) (j:Int)=mayP D ps i j:=by
 unfold mayZ
 rw[decide_eq_true (show (0:Int)≤(i:Int) by omega),decide_eq_true (show (i:Int) < (j:Int) by omega),decide_eq_true (show (j:Int) < (ps.length:Int) by omega)]
 simp
set_option maxRecDepth 100000 in
set_option maxHeartbeats 4000000 in
theorem rall_any (A A3:Option Addr) (n c n3 c3:Nat) (ps:List Int) (m:Nat→Nat→Bool) (w:World) (h:RdP w w.heap.size A n ps) (hM:RdM w w.heap.size A3 n3 (fun _=>n3) m)
  (hc:n≤c) (hn:n≤1024) (h3:n3≤1024) (hps:∀ q∈ps,-1≤q∧q≤1024) :
  Calls Tryz.prog 64 #[.slice A n c,.slice A3 n3 c3] w (RowM 108 (allF (depW n3 m) ps) w):=by
 have hlen:=h.len
 obtain⟨R,hR⟩:∃ R,R=allF (depW n3 m) ps:=⟨_,rfl⟩
 have hRl:R.length≤2097152:=by rw[hR];exact allF_le (by omega)
 rw[← hR]
 have HR:=hid hR
 have HLN:=hid hlen
 have HP:=hid h
 have HM:=hid hM
 have HPS:=hid hps
 clear h hM hps hlen hR
 go_enter Tryz.func64,Tryz.ntmps64
 go_wp2_with fail
 go_loopw [5,6,7,8,11] (fun q _ _ _ s wr=>∃(i k cq:Nat) (AQ:Option Addr) (Q:List Mo),i≤n∧s=.int .i64 i∧q=.slice AQ k cq∧OwnB 108 3 mcl wr w.heap.size AQ k cq Q∧Q++allI (depW n3 m) ps (n - i) i=R∧Below w.heap.size w wr) (fun _ _ _ _ s _=>n - (intOf s).toNat)
 case atStart=>exact⟨0,0,0,none,[],by omega,rfl,rfl,OwnB.nil _ _ _ _,by rw[HR.out,List.nil_append,← HLN.out];rfl,Below.refl _ _⟩
 case round =>
  obtain⟨i,k,cq,AQ,Q,hi,rfl,rfl,hown,hQ,hb⟩:=hrel
  have HOW:=hid hown
  have HQ:=hid hQ
  have HB:=hid hb
  clear hown hQ hb
  by_cases hin:i < n
  ·have hini:(i:Int) < (n:Int):=by omega
   have hst:=allI_step (depW n3 m) ps (i:=i) (by rw[HLN.out];exact hin)
   rw[HLN.out] at hst
   have HQ1:Hid (Q++(allJ (depW n3 m) ps i (n - (i+1)) (i+1)++allI (depW n3 m) ps (n - (i+1)) (i+1))=R):=hid (by rw[← hst];exact HQ.out)
   have hw1:IntKind.i64.wrap ((i:Int)+1)=(i:Int)+1:=IntWalk.i64_in _ (by omega)
   clear hst HQ
   go_wp2_with fail
   go_loopw [5,7,8] (fun q s _ wx=>∃(j k cq:Nat) (AQ:Option Addr) (Q:List Mo),i < j∧j≤n∧s=.int .i64 j∧q=.slice AQ k cq∧OwnB 108 3 mcl wx w.heap.size AQ k cq Q∧Q++(allJ (depW n3 m) ps i (n - j) j++allI (depW n3 m) ps (n - (i+1)) (i+1))=R∧Below w.heap.size w wx) (fun _ s _ _=>n - (intOf s).toNat)
   case atStart=>exact⟨i+1,k,cq,AQ,Q,by omega,by omega,by go_num,rfl,HOW.out,HQ1.out,HB.out⟩
   case round =>
    obtain⟨j,k,cq,AQ,Q,hij,hj,rfl,rfl,hown,hQ,hb⟩:=hrel
    clear HOW HQ1 HB
    have HQ:=hid hQ
    have HB:=hid hb
    have HOW:=hid hown
    clear hQ
    by_cases hjn:j < n
    ·have hjni:(j:Int) < (n:Int):=by omega
     have hbl:=bl1 wr (.cells #[.int .i64 (i:Int),.int .i64 (j:Int),.bool false] 108)
     have g0:(wr.alloc (.cells #[.int .i64 (i:Int),.int .i64 (j:Int),.bool false] 108)).cell? ⟨wr.heap.size,0,none⟩=some (.int .i64 (i:Int)):=World.cell?_alloc_mark _ _ _ _ _
     have g1:(wr.alloc (.cells #[.int .i64 (i:Int),.int .i64 (j:Int),.bool false] 108)).cell? ⟨wr.heap.size,1,none⟩=some (.int .i64 (j:Int)):=World.cell?_alloc_mark _ _ _ _ _
     have g2:(wr.alloc (.cells #[.int .i64 (i:Int),.int .i64 (j:Int),.bool false] 108)).cell? ⟨wr.heap.size,2,none⟩=some (.bool false):=World.cell?_alloc_mark _ _ _ _ _
     have HB1:=hid (hb.trans (hbl.mono hb.size))
     have HOW1:=hid (hown.below hbl)
     have hsj:=allJ_step (depW n3 m) ps i hjn
     have HQ2:Hid (Q++(twoM (depW n3 m) ps i j++(allJ (depW n3 m) ps i (n - (j+1)) (j+1)++allI (depW n3 m) ps (n - (i+1)) (i+1)))=R):=hid (by rw[← List.append_assoc (twoM _ _ _ _),← hsj];exact HQ.out)
     have hgl:wr.heap.size < (wr.alloc (.cells #[.int .i64 (i:Int),.int .i64 (j:Int),.bool false] 108)).heap.size:=by simp
     clear hown hb hbl hsj HQ HB HOW
     go_upto_region 9 with fail
     generalize wr.alloc (.cells #[.int .i64 (i:Int),.int .i64 (j:Int),.bool false] 108)=W1 at g0 g1 g2 HB1 HOW1 hgl ⊢
     generalize wr.heap.size=gm at g0 g1 g2 hgl ⊢
     have hma:=rmay_any A A3 n c n3 c3 ps m (i:Int) (j:Int) false W1 (HP.out.on HB1.out) (HM.out.on HB1.out) hc (by omega) h3 HPS.out
     rw[mayZ_nat (depW n3 m) hij (by rw[HLN.out];exact hjn)] at hma
     have htw:twoM (depW n3 m) ps i j=if mayP (depW n3 m) ps i j=true then [⟨i,j,false⟩,⟨i,j,true⟩] else []:=rfl
     generalize mayP (depW n3 m) ps i j=bv at hma htw
     have HMA:=hid hma
     have HTW:=hid htw
     clear hma htw
     cases bv with
     | false =>
      have hq:Q++(allJ (depW n3 m) ps i (n - (j+1)) (j+1)++allI (depW n3 m) ps (n - (i+1)) (i+1))=R:=by
       have h:=HQ2.out
       rw[HTW.out] at h
       exact h
      have HQ3:=hid hq
      clear hq
      go_wp2_with fail
      refine HMA.out.mono ?_
      rintro e w5 ⟨rfl,hb5⟩
      have HB5:=hid (HB1.out.trans (hb5.mono HB1.out.size))
      have HOW5:=hid (HOW1.out.below hb5)
      clear hb5 HMA
      go_wp2_with fail
      go_roundw
      case rel=>exact⟨j+1,k,cq,AQ,Q,by omega,by omega,by go_num,rfl,HOW5.out,HQ3.out,HB5.out⟩
      case measure=>simp[intOf];omega
     | true =>
      have hq:(Q++[⟨i,j,false⟩,⟨i,j,true⟩])++(allJ (depW n3 m) ps i (n - (j+1)) (j+1)++allI (depW n3 m) ps (n - (i+1)) (i+1))=R:=by
       have h:=HQ2.out
       rw[HTW.out] at h
       rw[List.append_assoc]
       exact h
      have hkl:k+2≤2097152:=by
       have h1:=congrArg List.length hq
       rw[List.length_append,List.length_append,HOW1.out.len] at h1
       simp only[List.length_cons,List.length_nil] at h1
       omega
      have HQ3:=hid hq
      clear hq
      go_wp2_with fail
      refine HMA.out.mono ?_
      rintro e w5 ⟨rfl,hb5⟩
      have HB5:=hid (HB1.out.trans (hb5.mono HB1.out.size))
      have hq0:=(hb5.cell (p:=⟨gm,0,none⟩) hgl).trans g0
      have hq1:=(hb5.cell (p:=⟨gm,1,none⟩) hgl).trans g1
      have hq2:=(hb5.cell (p:=⟨gm,2,none⟩) hgl).trans g2
      have hbx:=bl1 w5 (.cells #[.int .i64 (i:Int),.int .i64 (j:Int),.bool false,.int .i64 (i:Int),.int .i64 (j:Int),.bool true] 108)
      have how5:=(HOW1.out.below hb5).below hbx
      have hown5:=how5.own
      have hrd:=rdV_new w5 #[.int .i64 (i:Int),.int .i64 (j:Int),.bool false,.int .i64 (i:Int),.int .i64 (j:Int),.bool true] 108 (([⟨i,j,false⟩,⟨i,j,true⟩]:List Mo).flatMap mcl) rfl
      have HB6:=hid (HB5.out.trans (hbx.mono HB5.out.size))
      have hs6:w.heap.size≤(w5.alloc (.cells #[.int .i64 (i:Int),.int .i64 (j:Int),.bool false,.int .i64 (i:Int),.int .i64 (j:Int),.bool true] 108)).heap.size:=HB6.out.size
      have hkq:=HOW1.out.len
      have hfm:Q.flatMap mcl++([⟨i,j,false⟩,⟨i,j,true⟩]:List Mo).flatMap mcl=(Q++([⟨i,j,false⟩,⟨i,j,true⟩]:List Mo)).flatMap mcl:=List.flatMap_append.symm
      clear hb5 HMA hbx HB5 how5
      go_wp2_with (at_builtin;go_loud (refine wpList_appV elRm rfl (.tmp 29) (.tmp 34) rfl rfl w.heap.size AQ k cq _ rfl hown5 _ 2 2 _ _ rfl hrd rfl (mcl_one _) (by omega) (by unfold maxLen;omega) hs6 (k+2) rfl _ hfm ?_;intro A8 c8 w8 hw8 hb8 _))
      go_roundw
      case rel=>exact⟨j+1,k+2,c8,A8,_,by omega,by omega,by go_num,rfl,⟨by rw[List.length_append,hkq];rfl,hw8⟩,HQ3.out,HB6.out.trans hb8⟩
      case measure=>simp[intOf];omega
    ·have hjni:¬ (j:Int) < (n:Int):=by omega
     obtain rfl:n=j:=by omega
     have hq:Q++allI (depW n3 m) ps (n - (i+1)) (i+1)=R:=by
      have h:=HQ.out
      rw[Nat.sub_self] at h
      exact h
     have HQ3:=hid hq
     clear hq hown hb
     go_wp2_with fail
     go_roundw
     case rel=>exact⟨i+1,k,cq,AQ,Q,by omega,by go_num,rfl,HOW.out,HQ3.out,HB.out⟩
     case measure=>simp[intOf];omega
  ·have hini:¬ (i:Int) < (n:Int):=by omega
   obtain rfl:n=i:=by omega
   have hq:Q=R:=by
    have h:=HQ.out
    rw[Nat.sub_self] at h
    simpa [allI] using h
   subst hq
   have hkl:=HOW.out.len
   have HKL:=hid hkl
   clear hkl
   go_wp2_with fail
   go_ret
   exact⟨AQ,cq,by rw[HKL.out];rfl,by rw[HKL.out];exact HOW.out,HB.out⟩
end Go.Proofs.YtfddpnhaejkacaaGreat
namespace Go.Proofs.YtfddpnhaejkacaaGreat
open Go.ChangeShapes Go.WideShapes Go.ChangeAt Go.RowKit Tab
theorem mem_allJ {D:Int→Int→Bool} {ps:List Int} {i:Nat} {x:Mo}:∀ f j,x∈allJ D ps i f j→x.i=i∧j≤x.j∧x.j < j+f∧mayP D ps i x.j=true:=by
 intro f
 induction f with
 | zero=>intro j h;cases h
 | succ f ih =>
  intro j h
  unfold allJ at h
  rcases List.mem_append.1 h with h | h
  ·unfold twoM at h
   split at h
   ·rename_i hm
    simp at h
    rcases h with rfl | rfl <;> exact⟨rfl,Nat.le_refl _,by show j < j+(f+1);omega,hm⟩
   ·cases h
  ·obtain⟨h1,h2,h3,h4⟩:=ih (j+1) h
   exact⟨h1,by omega,by omega,h4⟩
theorem mem_allI {D:Int→Int→Bool} {ps:List Int} {x:Mo}:∀ f i,x∈allI D ps f i→x.i < x.j∧x.j < ps.length∧mayP D ps x.i x.j=true:=by
 intro f
 induction f with
 | zero=>intro i h;cases h
 | succ f ih =>
  intro i h
  unfold allI at h
  rcases List.mem_append.1 h with h | h
  ·obtain⟨h1,h2,h3,h4⟩:=mem_allJ _ _ h
   rw[h1]
   exact⟨by omega,by omega,h4⟩
  ·exact ih _ h
theorem mem_allF {D:Int→Int→Bool} {ps:List Int} {x:Mo} (h:x∈allF D ps):x.i < x.j∧x.j < ps.length∧mayP D ps x.i x.j=true:=mem_allI _ _ h
theorem wayP_mono {D E:Int→Int→Bool} (h:∀ p q,E p q=true→D p q=true) {p q:Int} (hw:wayP E p q=true):wayP D p q=true:=by
 unfold wayP at hw ⊢
 simp only[Bool.or_eq_true,Bool.and_eq_true] at hw ⊢
 rcases hw with h1 | ⟨h1,h2,h3⟩
 ·exact .inl h1
 ·exact .inr ⟨h1,h2,h _ _ h3⟩
theorem mayP_mono {D E:Int→Int→Bool} (h:∀ p q,E p q=true→D p q=true) {ps:List Int} {i j:Nat} (hm:mayP D ps i j=true):mayP E ps i j=true:=by
 unfold mayP at hm ⊢
 split at hm
 ·rename_i x y hx hy
  simp only[Bool.and_eq_true,Bool.not_eq_true'] at hm ⊢
  refine⟨hm.1,hm.2.1,?_⟩
  rw[List.any_eq_false]
  intro z hz hw
  have:=List.any_eq_false.1 hm.2.2 z hz
  exact this (wayP_mono h hw)
 ·cases hm
end Go.Proofs.YtfddpnhaejkacaaGreat
namespace Go.Proofs.YtfddpnhaejkacaaGreat
open Go.RowKit Tab
open Lib (hid)
namespace Tab
theorem swi_tpush (out:List Rn) (x:Rn):swi (tpush out x)≤swi out+if x.p=-1 then 0 else 1:=by
 rcases tpush_cases out x with ⟨h0,e⟩ | ⟨h0,rfl,e⟩ | ⟨o,y,h0,rfl,hp,e⟩ | ⟨o,y,h0,rfl,hp,e⟩
 ·rw[e];omega
 ·rw[e];simp[swi]
 ·rw[e,swi_append,swi_append]
  simp only[swi]
  omega
 ·rw[e,swi_append]
  simp only[swi]
  omega
theorem swi_tidyOn (l:List Rn):∀ out,swi (tidyOn out l)≤swi out+swi l:=by
 induction l with
 | nil=>intro out;exact Nat.le_add_right _ _
 | cons x l ih =>
  intro out
  have e:tidyOn out (x::l)=tidyOn (tpush out x) l:=rfl
  rw[e]
  have h1:=ih (tpush out x)
  have h2:=swi_tpush out x
  simp only[swi]
  omega
theorem swi_tidy (l:List Rn):swi (tidy l)≤swi l:=by
 have:=swi_tidyOn l []
 simpa [tidy,swi] using this
theorem mv_swi {L:List Rn} {i j:Nat} {x y:Rn} (hij:i < j) (hx:L[i]? = some x) (hy:L[j]? = some y) (right:Bool):swi (tidy (mv L i j right))≤swi L:=by
 have hl:swi L=swi (L.take i++x::(mid L i j++y::L.drop (j+1))):=congrArg swi (split_far hij hx hy)
 rw[hl,mv_split hij hx hy]
 cases right with
 | true =>
  simp only[if_true]
  rw[tidy_drop0]
  refine Nat.le_trans (swi_tidy _) ?_
  simp only[swi_append,swi]
  omega
 | false =>
  simp only[Bool.false_eq_true,if_false]
  have e:L.take i++(⟨x.p,y.n+x.n⟩:Rn)::(mid L i j++(⟨y.p,0⟩:Rn)::L.drop (j+1))=(L.take i++(⟨x.p,y.n+x.n⟩:Rn)::mid L i j)++(⟨y.p,0⟩:Rn)::L.drop (j+1):=by simp
  rw[e,tidy_drop0]
  refine Nat.le_trans (swi_tidy _) ?_
  simp only[swi_append,swi]
  omega
end Tab
set_option maxRecDepth 100000 in
set_option maxHeartbeats 1600000 in
theorem rswitches_any (A:Option Addr) (n cap:Nat) (L:List Rn) (w:World) (h:RdR w w.heap.size A n L) (hc:n≤cap) (hn:n≤1048576) (ht:ticks L≤1099511627776) :
  Calls Tryz.prog 19 #[.slice A n cap] w (Ans (.int .i64 (swi (tidy L):Nat)) w):=by
 have hT:=rtidy_any A n cap L w h hc hn ht
 have hle:=tidy_le L
 rw[h.len] at hle
 generalize tidy L=T at hT hle ⊢
 unfold MadeR at hT
 have HT:=hid hT
 clear hT h
 go_enter Tryz.func19,Tryz.ntmps19
 go_wp2_with fail
 refine HT.out.mono ?_
 rintro e w1 ⟨A1,c1,rfl,hr1,hc1,hb1,_⟩
 generalize hm1:T.length=m1 at hr1 hc1 hle
 have HM1:=hid hm1
 clear hm1 HT
 go_wp2_with fail
 go_loopw [3,9] (fun q s wr=>∃(i m:Nat),i≤m1∧s=.int .i64 i∧q=.int .i64 m∧m=swi (T.take i)∧Below w1.heap.size w1 wr) (fun _ s _=>m1 - (intOf s).toNat)
 case atStart=>exact⟨0,0,by omega,rfl,rfl,by simp[swi],Below.refl _ _⟩
 case round =>
  obtain⟨i,m,hi,rfl,rfl,hm,hb⟩:=hrel
  have hmt:=swi_take T i
  rw[← hm] at hmt
  by_cases hlt:i < m1
  ·obtain⟨ad,r,rfl,had,hr,c0,c1⟩:=(hr1.on hb).at_ hlt
   have hmore:=swi_more hr
   rw[← hm] at hmore
   have hbl:=bl1 wr (.cells #[.int .i64 r.p,.int .i64 (r.n:Int)] 75)
   have HB:=hid (hb.trans (hbl.mono hb.size))
   by_cases hp:r.p=-1
   ·rw[if_pos hp] at hmore
    have hpb:(r.p != -1)=false:=by rw[hp];rfl
    have HM:=hid hmore
    clear hp hmore hm hbl hr
    go_wp2_with fail
    go_roundw
    case rel=>exact⟨i+1,m,by omega,by go_num,rfl,HM.out.symm,HB.out⟩
    case measure=>simp[intOf];omega
   ·rw[if_neg hp] at hmore
    have hpb:(r.p != -1)=true:=bne_iff_ne.2 hp
    have HM:=hid hmore
    clear hp hmore hm hbl hr
    go_wp2_with fail
    go_roundw
    case rel=>exact⟨i+1,m+1,by omega,by go_num,by go_num,HM.out.symm,HB.out⟩
    case measure=>simp[intOf];omega
  ·have hge:m1≤i:=by omega
   have e:m=swi T:=by rw[hm,List.take_of_length_le (by rw[HM1.out];exact hge)]
   have HE:=hid e
   clear e hm
   go_wp2_with fail
   go_ret
   exact Ans.mk (by rw[HE.out];rfl) (hb1.trans (hb.mono hb1.size))
theorem wordsL_push (out:List Rn) (x:Rn):wordsL (tpush out x)=wordsL out++List.replicate x.n x.p:=by
 rcases tpush_cases out x with ⟨h,e⟩ | ⟨h,rfl,e⟩ | ⟨o,y,h,rfl,hp,e⟩ | ⟨o,y,h,rfl,hp,e⟩
 ·rw[e,h];simp
 ·rw[e];simp[wordsL]
 ·rw[e,wordsL_append,wordsL_append]
  simp only[wordsL,hp,List.append_nil,List.append_assoc]
  rw[List.replicate_append_replicate]
 ·rw[e,wordsL_append];simp[wordsL]
theorem wordsL_tidyOn (l:List Rn):∀ out,wordsL (tidyOn out l)=wordsL out++wordsL l:=by
 induction l with
 | nil=>intro out;simp[tidyOn,wordsL]
 | cons x l ih =>
  intro out
  have:=ih (tpush out x)
  unfold tidyOn at this ⊢
  rw[List.foldl_cons,this,wordsL_push]
  simp only[wordsL,List.append_assoc]
theorem wordsL_tidy (l:List Rn):wordsL (tidy l)=wordsL l:=by
 unfold tidy
 rw[wordsL_tidyOn]
 rfl
def fi (q:Int):List Int→Nat
 | []=>0
 | x::l=>if x=q then 0 else fi q l+1
theorem fi_get {q:Int} {Z:List Int} (h:hasL q Z=true):Z[fi q Z]? = some q:=by
 induction Z with
 | nil=>cases h
 | cons x Z ih =>
  simp only[hasL,Bool.or_eq_true,decide_eq_true_eq] at h
  by_cases hx:x=q
  ·simp[fi,hx]
  ·simp only[fi,if_neg hx,List.getElem?_cons_succ]
   exact ih (h.resolve_left hx)
theorem fi_no {q:Int} {Z:List Int}:∀ {i:Nat},i < fi q Z→¬ Z[i]? = some q:=by
 induction Z with
 | nil=>intro i h;simp[fi] at h
 | cons x Z ih =>
  intro i h
  by_cases hx:x=q
  ·simp[fi,hx] at h
  ·simp only[fi,if_neg hx] at h
   cases i with
   | zero=>simpa using hx
   | succ i=>simpa using ih (by omega)
theorem fi_lt {q:Int} {Z:List Int} (h:hasL q Z=true):fi q Z < Z.length:=(List.getElem?_eq_some_iff.1 (fi_get h)).1
theorem fi_rep_ne {x q:Int} (h:x≠q) (k:Nat) (Z:List Int):fi q (List.replicate k x++Z)=k+fi q Z:=by
 induction k with
 | zero=>simp
 | succ k ih =>
  simp only[List.replicate_succ,List.cons_append,fi,if_neg h,ih]
  omega
theorem fi_rep_eq (q:Int) (k:Nat) (Z:List Int) (h:1≤k):fi q (List.replicate k q++Z)=0:=by
 obtain⟨k,rfl⟩:∃ j,k=j+1:=⟨k - 1,by omega⟩
 simp[List.replicate_succ,fi]
def wc (q:Int):List Rn→Nat→Nat
 | [],n=>n
 | r::s,n=>if r.p=q then 0 else wc q s n+r.n
theorem wc_fi {q:Int} {S:List Rn} (h:∀ r∈S,1≤r.n) (Y:List Int):wc q S (fi q Y)=fi q (wordsL S++Y):=by
 induction S with
 | nil=>rfl
 | cons r s ih =>
  have ih:=ih fun x hx=>h x (by simp[hx])
  have h1:=h r (by simp)
  simp only[wc,wordsL,List.append_assoc]
  by_cases hp:r.p=q
  ·rw[if_pos hp,hp,fi_rep_eq q _ _ h1]
  ·rw[if_neg hp,fi_rep_ne hp,ih]
   omega
theorem wc_le (q:Int) (S:List Rn) (n:Nat):wc q S n≤ticks S+n:=by
 induction S with
 | nil=>simp[wc,ticks]
 | cons r s ih =>
  simp only[wc,ticks]
  split <;> omega
theorem wc_at {q:Int} {L:List Rn} {i:Nat} {r:Rn} (h:L[i]? = some r) (n:Nat):wc q (L.drop i) n=if r.p=q then 0 else wc q (L.drop (i+1)) n+r.n:=by
 obtain⟨hi,e⟩:=List.getElem?_eq_some_iff.1 h
 rw[List.drop_eq_getElem_cons hi,e]
 rfl
def wt (q:Int) (L:List Rn) (i:Nat):Nat:=wc q (L.drop (i+1)) (wc q L 0)
theorem ticks_drop_le (L:List Rn) (i:Nat):ticks (L.drop i)≤ticks L:=by
 have h:ticks (L.take i++L.drop i)=ticks L:=by rw[List.take_append_drop]
 rw[ticks_append] at h
 omega
theorem wc0_le (q:Int) (L:List Rn):wc q L 0≤ticks L:=by
 have:=wc_le q L 0
 omega
theorem wt_le (q:Int) (L:List Rn) (i:Nat):wt q L i≤2*ticks L:=by
 have h1:=wc_le q (L.drop (i+1)) (wc q L 0)
 have h2:=wc0_le q L
 have h3:=ticks_drop_le L (i+1)
 unfold wt
 omega
theorem wt_fi {q:Int} {L:List Rn} (h:∀ r∈L,1≤r.n) (i:Nat):wt q L i=fi q (wordsL (L.drop (i+1))++wordsL L):=by
 unfold wt
 have e:wc q L 0=fi q (wordsL L):=by
  have:=wc_fi (q:=q) h []
  rw[List.append_nil] at this
  exact this
 rw[e,wc_fi fun r hr=>h r (List.mem_of_mem_drop hr)]
theorem rnd_split {X Y W:List Int} {x:Int} (hW:W=X++x::Y) {m:Nat} (hm:m < (Y++W).length):rnd W (X.length+(1+m))=(Y++W)[m]?:=by
 have hl:W.length=X.length+1+Y.length:=by rw[hW,List.length_append,List.length_cons];omega
 rw[List.length_append] at hm
 by_cases h:m < Y.length
 ·rw[rnd_lt (by omega),List.getElem?_append_left h,hW,List.getElem?_append_right (by omega)]
  rw[show X.length+(1+m) - X.length=m+1 by omega,List.getElem?_cons_succ]
 ·rw[List.getElem?_append_right (by omega)]
  have e:X.length+(1+m)=(m - Y.length)+W.length*1:=by omega
  rw[e,rnd_add,rnd_lt (by omega)]
theorem dist_split {X Y W:List Int} {x q:Int} (hW:W=X++x::Y) (h:hasL q W=true):dist W q X.length=1+fi q (Y++W):=by
 have hZ:hasL q (Y++W)=true:=by rw[hasL_append,h,Bool.or_true]
 have hlt:=fi_lt hZ
 refine(dist_dst h X.length).eq ⟨by omega,?_,fun e h1 h2=>?_⟩
 ·rw[rnd_split hW hlt]
  exact fi_get hZ
 ·obtain⟨m,rfl⟩:∃ m,e=1+m:=⟨e - 1,by omega⟩
  rw[rnd_split hW (by omega)]
  exact fi_no (by omega)
theorem run_at {L:List Rn} {i:Nat} {r:Rn} (hr:L[i]? = some r):wordsL L=wordsL (L.take i)++(List.replicate r.n r.p++wordsL (L.drop (i+1))):=by
 have h:=congrArg wordsL (List.take_append_drop (i+1) L)
 rw[wordsL_append,wordsL_more hr,List.append_assoc] at h
 exact h.symm
theorem dist_run {L:List Rn} {i j:Nat} {r:Rn} {q:Int} (hr:L[i]? = some r) (h:hasL q (wordsL L)=true) (hj:j < r.n) :
  dist (wordsL L) q ((wordsL (L.take i)).length+j)=1+fi q (List.replicate (r.n - 1 - j) r.p++(wordsL (L.drop (i+1))++wordsL L)):=by
 have e:wordsL L=(wordsL (L.take i)++List.replicate j r.p)++r.p::(List.replicate (r.n - 1 - j) r.p++wordsL (L.drop (i+1))):=by
  refine(run_at hr).trans ?_
  have e2:List.replicate r.n r.p=List.replicate j r.p++r.p::List.replicate (r.n - 1 - j) r.p:=by
   rw[← List.replicate_succ,List.replicate_append_replicate]
   congr 1
   omega
  rw[e2]
  simp only[List.append_assoc,List.cons_append]
 have k:=dist_split e h
 rw[List.length_append,List.length_replicate,List.append_assoc] at k
 exact k
theorem get_run:∀(L:List Rn) (t:Nat),t < (wordsL L).length→∃ i r j,L[i]? = some r∧j < r.n∧t=(wordsL (L.take i)).length+j∧(wordsL L)[t]? = some r.p:=by
 intro L
 induction L with
 | nil=>intro t h;simp[wordsL] at h
 | cons x L ih =>
  intro t h
  by_cases hx:t < x.n
  ·refine⟨0,x,t,rfl,hx,by simp[wordsL],?_⟩
   simp only[wordsL]
   rw[List.getElem?_append_left (by simpa using hx),List.getElem?_replicate,if_pos hx]
  ·simp only[wordsL,List.length_append,List.length_replicate] at h
   obtain⟨i,r,j,h1,h2,h3,h4⟩:=ih (t - x.n) (by omega)
   refine⟨i+1,r,j,h1,h2,?_,?_⟩
   ·simp only[List.take_succ_cons,wordsL,List.length_append,List.length_replicate]
    omega
   ·simp only[wordsL]
    rw[List.getElem?_append_right (by simp;omega),List.length_replicate]
    exact h4
theorem run_get {L:List Rn} {i j:Nat} {r:Rn} (hr:L[i]? = some r) (hj:j < r.n):(wordsL L)[(wordsL (L.take i)).length+j]? = some r.p∧(wordsL (L.take i)).length+j < (wordsL L).length:=by
 have e:=run_at hr
 have h1:(wordsL L)[(wordsL (L.take i)).length+j]? = some r.p:=by
  rw[e,List.getElem?_append_right (by omega),Nat.add_sub_cancel_left,List.getElem?_append_left (by simpa using hj),List.getElem?_replicate,if_pos hj]
 exact⟨h1,(List.getElem?_eq_some_iff.1 h1).1⟩
def mo (p:Int) (g:Nat→Nat→Nat) (L:List Rn):Nat→Nat
 | 0=>0
 | k+1=>match L[k]? with
  | some r=>if r.p=p then max (mo p g L k) (g k r.n) else mo p g L k
  | none=>mo p g L k
theorem mo_yes {p:Int} {g:Nat→Nat→Nat} {L:List Rn} {k:Nat} {r:Rn} (h:L[k]? = some r) (hp:r.p=p):mo p g L (k+1)=max (mo p g L k) (g k r.n):=by simp only[mo,h,if_pos hp]
theorem mo_no {p:Int} {g:Nat→Nat→Nat} {L:List Rn} {k:Nat} {r:Rn} (h:L[k]? = some r) (hp:r.p≠p):mo p g L (k+1)=mo p g L k:=by simp only[mo,h,if_neg hp]
theorem mo_le {p:Int} {g:Nat→Nat→Nat} {L:List Rn} {M:Nat}:∀ k,mo p g L k≤M↔∀ i r,i < k→L[i]? = some r→r.p=p→g i r.n≤M:=by
 intro k
 induction k with
 | zero=>exact⟨fun _ i r h=>by omega,fun _=>Nat.zero_le _⟩
 | succ k ih =>
  have low:(∀ i r,i < k+1→L[i]? = some r→r.p=p→g i r.n≤M)↔mo p g L k≤M∧∀ r,L[k]? = some r→r.p=p→g k r.n≤M:=by
   constructor
   ·exact fun h=>⟨ih.2 fun i r hi=>h i r (by omega),fun r=>h k r (by omega)⟩
   ·rintro ⟨h1,h2⟩ i r hi hr hp
    by_cases e:i=k
    ·subst e;exact h2 r hr hp
    ·exact ih.1 h1 i r (by omega) hr hp
  rw[low]
  cases hk:L[k]? with
  | none=>simp[mo,hk]
  | some x =>
   by_cases hp:x.p=p
   ·rw[mo_yes hk hp]
    constructor
    ·intro h
     exact⟨by omega,fun r hr _=>by injection hr with hr;subst hr;omega⟩
    ·rintro ⟨h1,h2⟩
     have:=h2 x rfl hp
     omega
   ·rw[mo_no hk hp]
    exact⟨fun h=>⟨h,fun r hr hrp=>by injection hr with hr;subst hr;exact absurd hrp hp⟩,fun h=>h.1⟩
theorem lateW_run {L:List Rn} {p q:Int} {M:Nat}:lateW (wordsL L) p q (wordsL L).length≤M↔∀ i r j,L[i]? = some r→r.p=p→j < r.n→dist (wordsL L) q ((wordsL (L.take i)).length+j)≤M:=by
 rw[lateW_le]
 constructor
 ·intro h i r j hr hp hj
  obtain⟨h1,h2⟩:=run_get hr hj
  exact h _ h2 (by rw[h1,hp])
 ·intro h t ht hp
  obtain⟨i,r,j,hr,hj,rfl,e⟩:=get_run L t ht
  rw[e] at hp
  injection hp with hp
  exact h i r j hr hp hj
theorem late_mo {L:List Rn} {p q:Int} (h:∀ r∈L,1≤r.n) (hq:hasL q (wordsL L)=true) (hne:p≠q):lateW (wordsL L) p q (wordsL L).length=mo p (fun i n=>wt q L i+n) L L.length:=by
 refine nat_eq_of_le fun M=>?_
 rw[lateW_run,mo_le]
 constructor
 ·intro H i r _ hr hp
  have h1:=h r (List.mem_of_getElem? hr)
  have k:=H i r 0 hr hp (by omega)
  rw[dist_run hr hq (by omega),fi_rep_ne (by rw[hp];exact hne),← wt_fi h] at k
  omega
 ·intro H i r j hr hp hj
  have k:=H i r (List.getElem?_eq_some_iff.1 hr).1 hr hp
  rw[dist_run hr hq hj,fi_rep_ne (by rw[hp];exact hne),← wt_fi h]
  omega
theorem gap_mo {L:List Rn} {p:Int} (h:∀ r∈L,1≤r.n) (hp:hasL p (wordsL L)=true):lateW (wordsL L) p p (wordsL L).length=mo p (fun i _=>wt p L i) L L.length+1:=by
 have h1:1≤lateW (wordsL L) p p (wordsL L).length:=by
  obtain⟨t,ht,e⟩:=hasL_get hp
  have k:=(lateW_le (W:=wordsL L) (p:=p) (q:=p) (wordsL L).length).1 (Nat.le_refl _) t ht e
  have:=(dist_dst hp t).1
  omega
 have key:lateW (wordsL L) p p (wordsL L).length - 1=mo p (fun i _=>wt p L i) L L.length:=by
  refine nat_eq_of_le fun M=>?_
  rw[show (lateW (wordsL L) p p (wordsL L).length - 1≤M)↔lateW (wordsL L) p p (wordsL L).length≤M+1 by omega,lateW_run,mo_le]
  constructor
  ·intro H i r _ hr hrp
   have h1:=h r (List.mem_of_getElem? hr)
   have k:=H i r (r.n - 1) hr hrp (by omega)
   rw[dist_run hr hp (by omega),show r.n - 1 - (r.n - 1)=0 by omega,List.replicate_zero,List.nil_append,← wt_fi h] at k
   omega
  ·intro H i r j hr hrp hj
   have k:=H i r (List.getElem?_eq_some_iff.1 hr).1 hr hrp
   rw[dist_run hr hp hj]
   by_cases hl:r.n - 1 - j=0
   ·rw[hl,List.replicate_zero,List.nil_append,← wt_fi h]
    omega
   ·rw[hrp,fi_rep_eq p _ _ (by omega)]
    omega
 omega
theorem has_tk {L:List Rn} {p:Int}:hasL p (wordsL L)=true↔0 < tkOf p L:=by rw[← cnt_has,cnt_words]
theorem has_tk0 {L:List Rn} {p:Int}:hasL p (wordsL L)=false↔tkOf p L=0:=by
 have h:=has_tk (L:=L) (p:=p)
 cases hh:hasL p (wordsL L) with
 | true =>
  rw[hh] at h
  have:=h.1 rfl
  exact⟨fun e=>(by cases e),fun e=>by omega⟩
 | false =>
  have h2:¬ 0 < tkOf p L:=fun k=>by
   have:=h.2 k
   rw[hh] at this
   cases this
  exact⟨fun _=>by omega,fun _=>rfl⟩
structure BstB where
 a:Nat
 l:Nat
 m:Nat
def stp (p:Int) (P:Nat) (s:BstB) (x:Int):BstB:=if s.l=1 then ⟨min s.a (s.m+if x=p then 1 else 0),P,0⟩ else ⟨s.a,s.l - 1,s.m+if x=p then 1 else 0⟩
theorem stp_one {p x:Int} {P a m:Nat}:stp p P ⟨a,1,m⟩ x=⟨min a (m+if x=p then 1 else 0),P,0⟩:=rfl
theorem stp_many {p x:Int} {P a l m:Nat} (h:¬ l=1):stp p P ⟨a,l,m⟩ x=⟨a,l - 1,m+if x=p then 1 else 0⟩:=if_neg h
def stpL (p:Int) (P:Nat) (s:BstB) (X:List Int):BstB:=X.foldl (stp p P) s
theorem stpL_append (p:Int) (P:Nat) (s:BstB) (X Y:List Int):stpL p P s (X++Y)=stpL p P (stpL p P s X) Y:=List.foldl_append
theorem stpL_lt {p:Int} {P:Nat}:∀(X:List Int) (a l m:Nat),X.length < l→stpL p P ⟨a,l,m⟩ X=⟨a,l - X.length,m+cntF p X⟩:=by
 intro X
 induction X with
 | nil=>intro a l m _;rfl
 | cons x X ih =>
  intro a l m h
  rw[List.length_cons] at h
  have e:stpL p P ⟨a,l,m⟩ (x::X)=stpL p P (stp p P ⟨a,l,m⟩ x) X:=rfl
  rw[e,stp_many (by omega),ih _ _ _ (by omega)]
  simp only[List.length_cons,cntF]
  congr 1 <;> omega
theorem stpL_eq {p:Int} {P:Nat}:∀(X:List Int) (a l m:Nat),X.length=l→1≤l→stpL p P ⟨a,l,m⟩ X=⟨min a (m+cntF p X),P,0⟩:=by
 intro X
 induction X with
 | nil=>intro a l m h h1;simp at h;omega
 | cons x X ih =>
  intro a l m h h1
  rw[List.length_cons] at h
  have e:stpL p P ⟨a,l,m⟩ (x::X)=stpL p P (stp p P ⟨a,l,m⟩ x) X:=rfl
  rw[e]
  by_cases hl:l=1
  ·have hX:X=[]:=List.length_eq_zero_iff.1 (by omega)
   subst hX
   subst hl
   rw[stp_one]
   rfl
  ·rw[stp_many hl,ih _ _ _ (by omega) (by omega)]
   simp only[cntF]
   congr 2
   omega
theorem stp_part {p x:Int} {P a l m n:Nat} (h:n < l):stpL p P ⟨a,l,m⟩ (List.replicate n x)=⟨a,l - n,m+if x=p then n else 0⟩:=by
 rw[stpL_lt _ _ _ _ (by simpa using h),List.length_replicate,cnt_rep]
theorem stp_full {p x:Int} {P a l m n:Nat} (h:l≤n) (h1:1≤l):stpL p P ⟨a,l,m⟩ (List.replicate n x)=stpL p P ⟨min a (m+if x=p then l else 0),P,0⟩ (List.replicate (n - l) x):=by
 obtain⟨k,rfl⟩:∃ k,n=l+k:=⟨n - l,by omega⟩
 rw[← List.replicate_append_replicate,stpL_append,stpL_eq _ _ _ _ (by simp) h1,cnt_rep,Nat.add_sub_cancel_left]
theorem stp_jump {p x:Int} {P:Nat} (hP:1≤P) (r:Nat):∀(k a:Nat),stpL p P ⟨a,P,0⟩ (List.replicate (P*(k+1)+r) x)=stpL p P ⟨a,P,0⟩ (List.replicate (P+r) x):=by
 intro k
 induction k with
 | zero=>intro a;rw[Nat.zero_add,Nat.mul_one]
 | succ k ih =>
  intro a
  rw[stp_full (by rw[Nat.mul_add];omega) hP,show P*(k+1+1)+r - P=P*(k+1)+r by rw[Nat.mul_add P (k+1) 1];omega,ih,
   stp_full (n:=P+r) (a:=a) (by omega) hP,stp_full (n:=P+r) (by omega) hP]
  congr 2
  simp only[Nat.zero_add]
  omega
theorem stp_mod {p x:Int} {P a n:Nat} (hP:1≤P) (h:1 < n / P):stpL p P ⟨a,P,0⟩ (List.replicate n x)=stpL p P ⟨a,P,0⟩ (List.replicate (P+n % P) x):=by
 obtain⟨k,hk⟩:∃ k,n / P=k+1:=⟨n / P - 1,by omega⟩
 have e:=Nat.div_add_mod n P
 rw[hk] at e
 rw[← stp_jump hP (n % P) k a,e]
theorem stp_bud {p:Int} {P:Nat} {W:List Int} (hP:1≤P):∀ k,P*k≤W.length→stpL p P ⟨P,P,0⟩ (W.take (P*k))=⟨min P (budW W p P k),P,0⟩:=by
 intro k
 induction k with
 | zero =>
  intro _
  rw[Nat.mul_zero,List.take_zero]
  show (⟨P,P,0⟩:BstB)=_
  congr 1
  simp only[budW]
  omega
 | succ k ih =>
  intro h
  rw[Nat.mul_add,Nat.mul_one] at h ⊢
  rw[List.take_add,stpL_append,ih (by omega),stpL_eq _ _ _ _ (by rw[List.length_take,List.length_drop];omega) hP]
  simp only[budW,Nat.zero_add,Nat.mul_comm k P]
  congr 1
  omega
theorem stp_all {p:Int} {P:Nat} {W:List Int} (hP:1≤P) (hW:1≤W.length) (hm:W.length % P=0):(stpL p P ⟨P,P,0⟩ W).a=budW W p P (W.length / P):=by
 have e:=Nat.div_add_mod W.length P
 rw[hm,Nat.add_zero] at e
 have h:=stp_bud (p:=p) (W:=W) hP (W.length / P) (by omega)
 rw[e,List.take_length] at h
 rw[h]
 show min P (budW W p P (W.length / P))=_
 have hd:W.length / P≠0:=fun h0=>by
  rw[h0,Nat.mul_zero] at e
  omega
 obtain⟨k,hk⟩:∃ k,W.length / P=k+1:=Nat.exists_eq_succ_of_ne_zero hd
 rw[hk]
 simp only[budW]
 have h1:=cntF_le p ((W.drop (k*P)).take P)
 have h2:((W.drop (k*P)).take P).length≤P:=by rw[List.length_take];omega
 omega
def BOk (P:Nat) (s:BstB):Prop:=s.a≤P∧1≤s.l∧s.l≤P∧s.m+s.l≤P
theorem bok_step {p:Int} {P:Nat} {s:BstB} (hP:1≤P) (h:BOk P s) (x:Int):BOk P (stp p P s x):=by
 obtain⟨h1,h2,h3,h4⟩:=h
 unfold stp
 by_cases hl:s.l=1
 ·rw[if_pos hl]
  exact⟨by show min _ _≤P;omega,hP,Nat.le_refl _,by show 0+P≤P;omega⟩
 ·rw[if_neg hl]
  refine⟨h1,by show 1≤s.l - 1;omega,by show s.l - 1≤P;omega,?_⟩
  show s.m+_+(s.l - 1)≤P
  split <;> omega
theorem bok_all {p:Int} {P:Nat} (hP:1≤P):∀(X:List Int) (s:BstB),BOk P s→BOk P (stpL p P s X):=by
 intro X
 induction X with
 | nil=>intro s h;exact h
 | cons x X ih=>intro s h;exact ih _ (bok_step hP h x)
theorem bok_start {P:Nat} (hP:1≤P):BOk P ⟨P,P,0⟩:=⟨Nat.le_refl _,hP,Nat.le_refl _,by show 0+P≤P;omega⟩
end Go.Proofs.YtfddpnhaejkacaaGreat
