import Derived.Test.YtfddpnhaejkacaaGreatLow12
import Derived.Test.YtfddpnhaejkacaaGreatLow13
import Derived.Test.YtfddpnhaejkacaaGreatLow14
set_option linter.unusedSimpArgs false
set_option linter.unusedVariables false
namespace Go.Proofs.YtfddpnhaejkacaaGreat
open Go.RowKit Tab
open Lib (hid)
set_option maxRecDepth 100000 in
set_option maxHeartbeats 2000000 in
theorem mmerge_any (A1 A2 A3 A:Option Addr) (n1 n2 n3 n c1 c2 c3 c:Nat) (L:List Rn) (w:World) (h:RdR w w.heap.size A n L) (hc:n≤c) (hn:n≤1048576) (ht:ticks L≤1099511627776) :
  Calls Tryz.prog 63 #[.agg #[.slice A1 n1 c1,.slice A2 n2 c2,.slice A3 n3 c3],.slice A n c] w (RowTb (tidy L) (mergeB L) w):=by
 have hb0:=bl1 w (.cells #[.slice A1 n1 c1,.slice A2 n2 c2,.slice A3 n3 c3] 97)
 have HT:=hid (tidy_any A n c L _ (h.on hb0) hc hn ht)
 have HH:=hid (h.on hb0)
 have HB0:=hid hb0
 have hl:=tidy_le L
 have HL:Hid ((tidy L).length≤1048576):=hid (by rw[h.len] at hl;omega)
 have hmb:mergeB L=!(sameR (tidy L) L):=rfl
 generalize mergeB L=b at hmb ⊢
 generalize hss:sameR (tidy L) L=s at hmb
 have HSS:=hid hss
 generalize tidy L=X at HT HL HSS ⊢
 have HMB:=hid hmb
 clear h hl hmb hss hb0
 go_enter Tryz.func63,Tryz.ntmps63
 go_upto_region 1 with fail
 generalize w.alloc (.cells #[.slice A1 n1 c1,.slice A2 n2 c2,.slice A3 n3 c3] 97)=W at HT HH HB0 ⊢
 go_wp2_with fail
 refine HT.out.mono ?_
 rintro e w5 ⟨A5,c5,rfl,hr5,hc5,hb5,_⟩
 have HR5:=hid hr5
 have HB5:=hid hb5
 have HQ:=hid (rsame_any A5 A X.length n c5 c X L w5 hr5 (HH.out.on hb5) HL.out)
 rw[HSS.out] at HQ
 clear hr5 hb5 HT
 go_wp2_with fail
 refine HQ.out.mono ?_
 rintro e w6 ⟨rfl,q,rfl⟩
 go_wp2_with fail
 go_ret2
 have hbq:Below w5.heap.size w5 (w5.drewN q):=Below.drewN (Below.refl _ _) q
 have h9:=HB5.out.trans (hbq.mono HB5.out.size)
 exact⟨A5,c5,by rw[HMB.out];cases s <;> rfl,HR5.out.on hbq,hc5,HB0.out.trans (h9.mono HB0.out.size)⟩
set_option maxRecDepth 100000 in
set_option maxHeartbeats 2000000 in
theorem pmerge_any (A1 A2 A3 A:Option Addr) (n1 n2 n3 n c1 c2 c3 c:Nat) (L:List Rn) (w:World) (h:RdR w w.heap.size A n L) (hc:n≤c) (hn:n≤1048576) (ht:ticks L≤1099511627776) :
  Calls Tryz.prog 35 #[.agg #[.slice A1 n1 c1,.slice A2 n2 c2,.slice A3 n3 c3],.slice A n c] w (RowTb (tidy L) (mergeB L) w):=by
 have hb0:=bl1 w (.cells #[.slice A1 n1 c1,.slice A2 n2 c2,.slice A3 n3 c3] 31)
 have hbox:=box_vec w (.slice A1 n1 c1) (.slice A2 n2 c2) (.slice A3 n3 c3) 31
 have HC:=hid (mmerge_any A1 A2 A3 A n1 n2 n3 n c1 c2 c3 c L _ (h.on hb0) hc hn ht)
 have HB0:=hid hb0
 generalize mergeB L=b at HC ⊢
 generalize tidy L=X at HC ⊢
 clear h hb0
 go_enter Tryz.func35,Tryz.ntmps35
 go_upto_region 1 with fail
 generalize w.alloc (.cells #[.slice A1 n1 c1,.slice A2 n2 c2,.slice A3 n3 c3] 31)=W at hbox HC HB0 ⊢
 obtain⟨gc,hgc⟩:∃ gc,gc=w.heap.size:=⟨_,rfl⟩
 rw[← hgc] at hbox ⊢
 clear hgc
 obtain⟨m0,m1,m2⟩:=hbox.three
 clear hbox
 go_wp2_with fail
 refine HC.out.mono ?_
 rintro e w5 ⟨A5,c5,rfl,hr5,hc5,hb5⟩
 have HR5:=hid hr5
 have HB5:=hid hb5
 clear hr5 hb5 HC
 go_wp2_with fail
 go_ret2
 exact⟨A5,c5,rfl,HR5.out,hc5,HB0.out.trans (HB5.out.mono HB0.out.size)⟩
set_option maxRecDepth 100000 in
set_option maxHeartbeats 2000000 in
theorem cpr_any (A:Option Addr) (n c:Nat) (L:List Rn) (w:World) (h:RdR w w.heap.size A n L) (hc:n≤c) (hn:n≤1048576) :
  Calls Tryz.prog 61 #[.slice A n c] w (fun e w'=>∃ A' c',e=.returned (.slice A' n c')∧RdR w' w'.heap.size A' n L∧n≤c'∧Below w.heap.size w w'):=by
 have hlen:=h.len
 have HH:=hid h
 clear h
 go_enter Tryz.func61,Tryz.ntmps61
 go_wp2_with (at_builtin;go_loud (refine wpList_appV elR rfl (.tmp 4) (.tmp 5) rfl rfl w.heap.size none 0 0 [] rfl (OwnV.nil _ _ _ _) A n c (rs L) _ rfl HH.out.rd (by rw[rs_length,hlen]) (rs_one _) (by omega) (by unfold maxLen;omega) (Nat.le_refl _) n (Nat.zero_add _) (rs L) (List.nil_append _) ?_;intro A9 c9 w9 hw9 hb9 _))
 go_ret
 exact⟨A9,c9,rfl,⟨hlen,hw9.rd⟩,hw9.cap,hb9⟩
theorem loadVar_run3 {w:World} {g:Nat} {v0 v1 v2:Value} (h0:w.cell? ⟨g,0,none⟩=some v0) (h1:w.cell? ⟨g,1,none⟩=some v1) (h2:w.cell? ⟨g,2,none⟩=some v2):(loadVar 99 ⟨g,0,none⟩).run Tryz.prog w=.ok (.agg #[v0,v1,v2]) w:=by
 have e:(isAgg 99).run Tryz.prog w=.ok true w:=by go_simp
 have e2:(sizeOf 99).run Tryz.prog w=.ok 3 w:=by go_simp
 unfold loadVar
 rw[Sem.run_bind,e,Result.andThen_ok]
 simp only[if_true]
 rw[Sem.run_bind,e2,Result.andThen_ok,Sem.run_bind]
 have:=run_loadCells_list (P:=Tryz.prog) (w:=w) ⟨g,0,none⟩ [v0,v1,v2] (fun j v hj=>by
  match j with
  | 0=>simp at hj;subst hj;simpa [Addr.add] using h0
  | 1=>simp at hj;subst hj;simpa [Addr.add] using h1
  | 2=>simp at hj;subst hj;simpa [Addr.add] using h2
  | j+3=>simp at hj)
 simp only[List.length_cons,List.length_nil] at this
 rw[this,Result.andThen_ok]
 rfl
theorem results_ct {fn:Func} {p t:Tmp} {ty:TypeId} (h:fn.results=#[.cell p ty,.tmp t]) (tmps:Array Value) (P:Program) (w:World) :
  (results fn tmps).run P w=((asAddr (tmps.getD p undef)).run P w).andThen fun a w₁=>((loadVar ty a).run P w₁).andThen fun v w₂=>.ok (.tuple #[v,tmps.getD t undef]) w₂:=by
 simp only[results,h]
 simp[Sem.run_bind,Result.andThen]
theorem results_run3 {fn:Func} {p t:Tmp} (h:fn.results=#[.cell p 99,.tmp t]) {tmps:Array Value} {w:World} {g:Nat} {v0 v1 v2:Value} (hp:tmps.getD p undef=.pointer (some ⟨g,0,none⟩)) (h0:w.cell? ⟨g,0,none⟩=some v0) (h1:w.cell? ⟨g,1,none⟩=some v1) (h2:w.cell? ⟨g,2,none⟩=some v2) :
  (results fn tmps).run Tryz.prog w=.ok (.tuple #[.agg #[v0,v1,v2],tmps.getD t undef]) w:=by
 have e:(asAddr (.pointer (some ⟨g,0,none⟩))).run Tryz.prog w=.ok ⟨g,0,none⟩ w:=rfl
 rw[results_ct h,hp,e,Result.andThen_ok,loadVar_run3 h0 h1 h2,Result.andThen_ok]
def set3r (w:World) (g:Nat) (v0 v1 v2:Value):World:=((w.setCell ⟨g,0,none⟩ v0).setCell ⟨g,1,none⟩ v1).setCell ⟨g,2,none⟩ v2
theorem set3r_cells {w:World} {g:Nat} {f:Nat→Value} (h:Vec w g 3 f) (v0 v1 v2:Value):(set3r w g v0 v1 v2).cell? ⟨g,0,none⟩=some v0∧(set3r w g v0 v1 v2).cell? ⟨g,1,none⟩=some v1∧(set3r w g v0 v1 v2).cell? ⟨g,2,none⟩=some v2:=by
 have h3:=((h.set 0 v0).set 1 v1).set 2 v2
 refine⟨(h3.cell 0 (by omega)).trans ?_,(h3.cell 1 (by omega)).trans ?_,(h3.cell 2 (by omega)).trans ?_⟩ <;> rfl
theorem set3r_bel {B:Nat} {w:World} {g:Nat} (hg:B≤g) (v0 v1 v2:Value):Below B w (set3r w g v0 v1 v2) :=
 (((Below.refl _ _).setCell (p:=⟨g,0,none⟩) hg v0).setCell (p:=⟨g,1,none⟩) hg v1).setCell (p:=⟨g,2,none⟩) hg v2
def mvZ:Option Mo→Value
 | some x=>.agg #[.int .i64 (x.i:Int),.int .i64 (x.j:Int),.bool x.r]
 | none=>.agg #[.int .i64 0,.int .i64 0,.bool false]
def FstR (o:Option Mo) (w:World) (e:Ending) (w':World):Prop:=e=.returned (.tuple #[mvZ o,.bool o.isSome])∧Below w.heap.size w w'
set_option maxRecDepth 100000 in
set_option maxHeartbeats 8000000 in
theorem first_any (A1 A2 A3 A:Option Addr) (n1 n2 n3 n c1 c2 c3 c:Nat) (P:List PtV) (C:List ChV) (L:List Rn) (w:World) (hCf:CfW w w.heap.size A1 A2 n1 n2 P C) (hL:RdR w w.heap.size A n L)
  (q1:n1≤1024) (q2:n2≤1048576) (hc:n≤c) (hn:n≤1024) (ht:ticks L≤8192) (hz:∀ x∈P,In64 x.per) :
  Calls Tryz.prog 55 #[.agg #[.slice A1 n1 c1,.slice A2 n2 c2,.slice A3 n3 c3],.slice A n c] w (FstR (fstF P C L) w):=by
 have hb0:=bl1 w (.cells #[.slice A1 n1 c1,.slice A2 n2 c2,.slice A3 n3 c3] 97)
 have hb1:=bl1 (w.alloc (.cells #[.slice A1 n1 c1,.slice A2 n2 c2,.slice A3 n3 c3] 97)) (.cells #[.int .i64 0,.int .i64 0,.bool false] 99)
 have hbox:=(box_vec w (.slice A1 n1 c1) (.slice A2 n2 c2) (.slice A3 n3 c3) 97).on hb1
 have hmo:Vec ((w.alloc (.cells #[.slice A1 n1 c1,.slice A2 n2 c2,.slice A3 n3 c3] 97)).alloc (.cells #[.int .i64 0,.int .i64 0,.bool false] 99)) (w.alloc (.cells #[.slice A1 n1 c1,.slice A2 n2 c2,.slice A3 n3 c3] 97)).heap.size 3 (fun j=>if j=2 then .bool false else .int .i64 0) :=
  Vec.lit _ _ _ 3 _ fun j hj=>by rcases(by omega:j=0∨j=1∨j=2) with rfl | rfl | rfl <;> rfl
 have hsz:(w.alloc (.cells #[.slice A1 n1 c1,.slice A2 n2 c2,.slice A3 n3 c3] 97)).heap.size=w.heap.size+1:=by simp
 rw[hsz] at hmo
 have hb2:=hb0.trans (hb1.mono hb0.size)
 have HCF:=hid (hCf.on hb2)
 have HR:=hid (hL.on hb2)
 have HB0:=hid hb2
 have HLN:=hid hL.len
 have HZ:=hid hz
 obtain⟨RR,hRR⟩:∃ RR,RR=fstF P C L:=⟨_,rfl⟩
 rw[← hRR]
 have HRR:=hid hRR
 clear hCf hL hb0 hb1 hb2 hz hRR hsz
 go_enter Tryz.func55,Tryz.ntmps55
 go_upto_region 1 with fail
 generalize (w.alloc (.cells #[.slice A1 n1 c1,.slice A2 n2 c2,.slice A3 n3 c3] 97)).alloc (.cells #[.int .i64 0,.int .i64 0,.bool false] 99)=W at hbox hmo HCF HR HB0 ⊢
 obtain⟨gc,hgc⟩:∃ gc,gc=w.heap.size:=⟨_,rfl⟩
 obtain⟨gm,hgm⟩:∃ gm,gm=w.heap.size+1:=⟨_,rfl⟩
 rw[← hgm] at hmo ⊢
 rw[← hgc] at hbox ⊢
 have HG:=hid (show w.heap.size≤gm by omega)
 clear hgc hgm
 have HBX:=hid fun V (hv:Below W.heap.size W V)=>(hbox.on hv).three
 have HMO:=hid fun V (hv:Below W.heap.size W V)=>hmo.on hv
 clear hbox hmo
 have HAL:=hid (all_any A none n c 0 0 (L.map Rn.p) (fun _ _=>false) W HR.out.rdp (RdM.none _ _ _ _) hc hn (by omega))
 have hql:(allF (depW 0 (fun _ _=>false)) (L.map Rn.p)).length≤2097152:=allF_le (by rw[List.length_map,HLN.out];omega)
 have HFF:Hid (firstL P C L (allF (depW 0 (fun _ _=>false)) (L.map Rn.p))=RR):=hid (by rw[HRR.out];rfl)
 generalize allF (depW 0 (fun _ _=>false)) (L.map Rn.p)=Q at HAL hql HFF
 go_wp2_with fail
 refine HAL.out.mono ?_
 rintro e wb ⟨A4,c4,rfl,how4,hb4⟩
 have HQ4:=hid how4.rdb
 have HBB:=hid hb4
 clear how4 hb4 HAL HRR
 go_wp2_with fail
 go_loopw [7,11] (fun _ s wr=>∃ t:Nat,t≤Q.length∧s=.int .i64 t∧firstL P C L (Q.take t)=none∧Below wb.heap.size wb wr) (fun _ s _=>Q.length - (intOf s).toNat)
 case atStart=>exact⟨0,by omega,rfl,rfl,Below.refl _ _⟩
 case round =>
  obtain⟨t,htq,rfl,hno,hb⟩:=hrel
  have HNN:=hid hno
  have HK:=hid hb
  clear hno hb
  by_cases htl:t < Q.length
  ·have htli:(t:Int) < (Q.length:Int):=by omega
   obtain⟨am,x,rfl,ham,hx,d0,dk⟩:=(HQ4.out.on HK.out).at_ mcl_len (by omega) htl
   have e0:=d0 _ rfl
   have e1:=dk 1 _ (by omega) rfl
   have e2:=dk 2 _ (by omega) rfl
   have hmo:=firstL_more (P:=P) (C:=C) (L:=L) hx HNN.out
   obtain⟨i,j,r⟩:=x
   dsimp only at e0 e1 e2 hmo
   have hbl:=bl1 wr (.cells #[.int .i64 (i:Int),.int .i64 (j:Int),.bool r] 99)
   have g0:(wr.alloc (.cells #[.int .i64 (i:Int),.int .i64 (j:Int),.bool r] 99)).cell? ⟨wr.heap.size,0,none⟩=some (.int .i64 (i:Int)):=World.cell?_alloc_mark _ _ _ _ _
   have g1:(wr.alloc (.cells #[.int .i64 (i:Int),.int .i64 (j:Int),.bool r] 99)).cell? ⟨wr.heap.size,1,none⟩=some (.int .i64 (j:Int)):=World.cell?_alloc_mark _ _ _ _ _
   have g2:(wr.alloc (.cells #[.int .i64 (i:Int),.int .i64 (j:Int),.bool r] 99)).cell? ⟨wr.heap.size,2,none⟩=some (.bool r):=World.cell?_alloc_mark _ _ _ _ _
   have HK1:=hid (HK.out.trans (hbl.mono HK.out.size))
   have HG3:=hid (show Vec (wr.alloc (.cells #[.int .i64 (i:Int),.int .i64 (j:Int),.bool r] 99)) wr.heap.size 3 (fun q=>if q=0 then .int .i64 (i:Int) else if q=1 then .int .i64 (j:Int) else .bool r) from Vec.lit _ _ _ 3 _ fun q hq=>by rcases(by omega:q=0∨q=1∨q=2) with rfl | rfl | rfl <;> rfl)
   have HXX:=hid hx
   clear hx d0 dk ham hbl
   go_upto_region 4 with fail
   generalize wr.alloc (.cells #[.int .i64 (i:Int),.int .i64 (j:Int),.bool r] 99)=W2 at g0 g1 g2 HK1 HG3 ⊢
   generalize wr.heap.size=gx at g0 g1 g2 HG3 ⊢
   have HWB:=hid (HBB.out.trans (HK1.out.mono HBB.out.size))
   obtain⟨m0,m1,m2⟩:=HBX.out W2 HWB.out
   have HFI:=hid (mfits_any A1 A2 A3 A n1 n2 n3 n c1 c2 c3 c P C (L.map Rn.p) (doZ L (i:Int) (j:Int) r) (i:Int) (j:Int) r W2 (HCF.out.on HWB.out) (HR.out.on HWB.out).rdp q1 q2 hc (by omega) (by have h1:=doZ_len L (i:Int) (j:Int) r;have h2:=HLN.out;omega) (by rw[doZ_ticks];exact ht) HZ.out
    (fun _ V hv=>do_any A n c L (i:Int) (j:Int) r V ((HR.out.on HWB.out).on hv) hc (by omega) (by omega)))
   rw[show (mayZ (depW P.length (depF (P.map ptOf) (C.map chOf))) (L.map Rn.p) (i:Int) (j:Int) && decide (holdsF (wordsL (doZ L (i:Int) (j:Int) r)) P C=0))=fitZ P C L (i:Int) (j:Int) r from rfl] at HFI
   have HMM:=hid hmo
   generalize fitZ P C L (i:Int) (j:Int) r=fb at HFI HMM
   clear hmo e0 e1 e2
   cases fb with
   | true =>
    have HSM:Hid (RR=some ⟨i,j,r⟩):=hid (by rw[← HFF.out];exact firstL_first (i:=t+1) (by rw[HMM.out,if_pos rfl]))
    go_wp2_with fail
    refine HFI.out.mono ?_
    rintro e w7 ⟨rfl,hb7⟩
    have HW7:=hid (HWB.out.trans (hb7.mono HWB.out.size))
    have hv:=HMO.out w7 HW7.out
    obtain⟨g0',g1',g2'⟩:=(HG3.out.on hb7).three
    have r0:w7.cell? ⟨gm,0,none⟩=some (.int .i64 0):=hv.cell 0 (by omega)
    have r1:w7.cell? ⟨gm,1,none⟩=some (.int .i64 0):=hv.cell 1 (by omega)
    have r2:w7.cell? ⟨gm,2,none⟩=some (.bool false):=hv.cell 2 (by omega)
    have s0:=hv.thaw 0
    have s1:=hv.thaw 1
    have s2:=hv.thaw 2
    obtain⟨d0,d1,d2⟩:=set3r_cells hv (.int .i64 (i:Int)) (.int .i64 (j:Int)) (.bool r)
    have D0:=hid d0
    have D1:=hid d1
    have D2:=hid d2
    have HE:=hid (set3r_bel (w:=w7) HG.out (.int .i64 (i:Int)) (.int .i64 (j:Int)) (.bool r))
    clear d0 d1 d2 hv hb7 HFI m0 m1 m2 g0 g1 g2
    go_wp2_with fail
    rw[HSM.out]
    refine bodyPost_ret (results_run3 rfl rfl D0.out D1.out D2.out) rfl ⟨rfl,?_⟩
    exact(HB0.out.trans (HW7.out.mono HB0.out.size)).trans HE.out
   | false =>
    have HN2:Hid (firstL P C L (Q.take (t+1))=none):=hid (by rw[HMM.out,if_neg (by simp)])
    go_wp2_with fail
    refine HFI.out.mono ?_
    rintro e w7 ⟨rfl,hb7⟩
    have HK7:=hid (HK1.out.trans (hb7.mono HK1.out.size))
    clear hb7 HFI m0 m1 m2 g0 g1 g2
    go_wp2_with fail
    go_roundw
    case rel=>exact⟨t+1,by omega,by go_num,HN2.out,HK7.out⟩
    case measure=>simp[intOf];omega
  ·have htli:¬ (t:Int) < (Q.length:Int):=by omega
   have e:Q.take t=Q:=List.take_of_length_le (by omega)
   have HSM:Hid (RR=none):=hid (by rw[← HFF.out,← e];exact HNN.out)
   have HW7:=hid (HBB.out.trans (HK.out.mono HBB.out.size))
   have hv:=HMO.out wr HW7.out
   have r0:wr.cell? ⟨gm,0,none⟩=some (.int .i64 0):=hv.cell 0 (by omega)
   have r1:wr.cell? ⟨gm,1,none⟩=some (.int .i64 0):=hv.cell 1 (by omega)
   have r2:wr.cell? ⟨gm,2,none⟩=some (.bool false):=hv.cell 2 (by omega)
   have s0:=hv.thaw 0
   have s1:=hv.thaw 1
   have s2:=hv.thaw 2
   obtain⟨d0,d1,d2⟩:=set3r_cells hv (.int .i64 0) (.int .i64 0) (.bool false)
   have D0:=hid d0
   have D1:=hid d1
   have D2:=hid d2
   have HE:=hid (set3r_bel (w:=wr) HG.out (.int .i64 0) (.int .i64 0) (.bool false))
   clear d0 d1 d2 hv e
   go_wp2_with fail
   rw[HSM.out]
   refine bodyPost_ret (results_run3 rfl rfl D0.out D1.out D2.out) rfl ⟨rfl,?_⟩
   exact(HB0.out.trans (HW7.out.mono HB0.out.size)).trans HE.out
end Go.Proofs.YtfddpnhaejkacaaGreat
