import Derived.Test.YtfddpnhaejkacaaGreatLow2
import Derived.Test.YtfddpnhaejkacaaGreatSn
import Derived.Test.YtfddpnhaejkacaaGreatRv
import Derived.Test.YtfddpnhaejkacaaGreatRu
namespace Go.Proofs.YtfddpnhaejkacaaGreat.reduceAgain
open Lib (hid)
open Go.ChangeShapes Go.WideShapes Go.ChangeAt Go.RowKit Tab
set_option linter.unusedSimpArgs false
set_option linter.unusedVariables false
theorem tbl_zero {P:List PtV} {C:List ChV} {now:List Nd} {Z:List Rn} (hF:Frm Z Z.length) (hk:holdsF (wordsL Z) P C=0):(tblF P C now Z 0).2.2=0:=by
 by_cases h:now.length < (outF P C Z).length
 ·rw[tblF_kept hk h]
 ·rw[tblF_turned hk h]
set_option maxRecDepth 100000 in
set_option maxHeartbeats 8000000 in
theorem walk (H:ReduceW 41) (A0:Option Addr) (n0 k0:Nat) (f0:Nat→Int) (w:World) (r0:RdC w w.heap.size A0 n0 fun j=>.int .i64 (f0 j)) (c0:n0≤k0) (b0:k0≤140737488351232) :
  Calls Tryz.prog 7 #[.slice A0 n0 k0] w (Ans (.bool true) w):=by
 have HCB:=hid (config_boxy A0 n0 k0 f0 w r0 (by omega))
 clear r0
 go_enter Tryz.func7,Tryz.ntmps7
 go_wp2_with fail
 refine HCB.out.mono ?_
 rintro e w1 ⟨A1,A2,A3,n1,n2,n3,c1,c2,c3,P,C,T,rfl,hCf,q1,q2,q3,q4,q5,hT,hTt,q6,q7,q8,hper,hb1⟩
 have hbl:=bl1 w1 (.cells #[.slice A1 n1 c1,.slice A2 n2 c2,.slice A3 n3 c3] 31)
 have hbox:=box_vec w1 (.slice A1 n1 c1) (.slice A2 n2 c2) (.slice A3 n3 c3) 31
 have HB:=hid (hb1.trans (hbl.mono hb1.size))
 have HCF:=hid (hCf.on hbl)
 have HTB:=hid (hT.on hbl)
 have HTT:Hid (∀ t∈T,TbAt (w1.alloc (.cells #[.slice A1 n1 c1,.slice A2 n2 c2,.slice A3 n3 c3] 31)) (w1.alloc (.cells #[.slice A1 n1 c1,.slice A2 n2 c2,.slice A3 n3 c3] 31)).heap.size t∧Frame t∧holdsF (wordsL (rowF t)) P C=0):=hid fun t ht=>⟨(hTt t ht).1.on hbl,(hTt t ht).2⟩
 have HPE:=hid hper
 clear hCf hT hTt hper hb1 hbl HCB
 go_upto_region 2 with fail
 generalize w1.alloc (.cells #[.slice A1 n1 c1,.slice A2 n2 c2,.slice A3 n3 c3] 31)=W at hbox HB HCF HTB HTT ⊢
 generalize w1.heap.size=gc at hbox ⊢
 have HBX:=hid fun V (hv:Below W.heap.size W V)=>(hbox.on hv).three
 clear hbox
 obtain⟨m0,m1,m2⟩:=HBX.out W (Below.refl _ _)
 go_wp2_with fail
 clear m0 m1 m2
 go_loopw [5,6,7,8,9,10,11,19] (fun _ _ _ _ _ _ _ s wr=>∃ i:Nat,i≤n3∧s=.int .i64 i∧Below W.heap.size W wr) (fun _ _ _ _ _ _ _ s _=>n3 - (intOf s).toNat)
 case atStart=>exact⟨0,by omega,rfl,Below.refl _ _⟩
 case round =>
  obtain⟨i,hi,rfl,hb⟩:=hrel
  have HK:=hid hb
  obtain⟨wq,hwq⟩:∃ wq,wq=wr:=⟨_,rfl⟩
  subst hwq
  by_cases hlt:i < n3
  ·have hlti:(i:Int) < (n3:Int):=by omega
   obtain⟨ad3,t0,rfl,_,ht0,hc0,_⟩:=(HTB.out.on hb).at_ tcl_len (by omega) hlt
   have hd0:=hc0 _ rfl
   rw[Nat.mul_one] at hd0
   obtain⟨htt,hfr,hhk⟩:=HTT.out t0 (List.mem_of_getElem? ht0)
   have htt2:=htt.on hb
   have HTQ:=hid htt2
   have HFR:=hid hfr
   have HFM:=hid (frm_row htt hfr)
   obtain⟨now,Z,r,htd⟩:=told_t htt hfr hhk
   have HTD:=hid htd
   have HTA:=hid (H.table A1 A2 (some ad3) t0.A n1 n2 n3 t0.n c1 c2 c3 t0.c P C (t0.x::t0.k.flat) (rowF t0) 0 wq (HCF.out.on hb) htt2.rd (by omega) q4 (by omega) htt2.cap htt2.few HPE.out (fun _=>frm_row htt hfr) fun V hv=>tb_of (htt2.on hv) hfr)
   rw[htd.eq] at HTA
   obtain⟨m0,m1,m2⟩:=HBX.out wq hb
   have hlen:=htd.len
   rw[htt.rd.len] at hlen
   have hcap:=htt.cap
   have hfew:=htt.few
   have HTN:=hid htd.kept
   have HAG:=hid htd.again
   have HPF:=hid fun A c V (hr:RdN V V.heap.size A now.length now) (hc:now.length≤c)=>htd.pof A now.length c V hr hc (by omega)
   have HFZ:=hid htd.frm
   have HHZ:=hid htd.holds
   obtain⟨mv,rn,ws,nd,wn,kp⟩:=r
   clear hb ht0 hc0 htt hfr hhk htt2 htd
   go_wp2_with fail
   refine HTA.out.mono ?_
   rintro e w2 ⟨A5,c5,rfl,hr5,hc5,hb5⟩
   dsimp only[Rep.v] at hr5 hc5 ⊢
   have HR5:=hid hr5
   have HK2:=hid (HK.out.trans (hb5.mono HK.out.size))
   have HT2:=hid (HTQ.out.on hb5)
   clear hr5 hb5 m0 m1 m2 HTA
   go_upto_region 6 with fail
   have hv1:Vec (w2.alloc (.cells #[.int .i64 mv,.int .i64 rn,.int .i64 ws,.int .i64 nd,.int .i64 wn,.bool kp] 45)) w2.heap.size 6 (fun j=>if j=0 then .int .i64 mv else if j=1 then .int .i64 rn else if j=2 then .int .i64 ws else if j=3 then .int .i64 nd else if j=4 then .int .i64 wn else .bool kp):=Vec.lit _ _ _ 6 _ fun j hj=>by rcases(by omega:j=0∨j=1∨j=2∨j=3∨j=4∨j=5) with rfl | rfl | rfl | rfl | rfl | rfl <;> rfl
   have HV1:=hid hv1
   have HB1:=hid (bl1 w2 (.cells #[.int .i64 mv,.int .i64 rn,.int .i64 ws,.int .i64 nd,.int .i64 wn,.bool kp] 45))
   clear hv1
   generalize w2.alloc (.cells #[.int .i64 mv,.int .i64 rn,.int .i64 ws,.int .i64 nd,.int .i64 wn,.bool kp] 45)=w3 at HV1 HB1 ⊢
   obtain⟨g1,hg1⟩:∃ g,g=w2.heap.size:=⟨_,rfl⟩
   rw[← hg1] at HV1 ⊢
   clear hg1
   have HK3:=hid (HK2.out.trans (HB1.out.mono HK2.out.size))
   have HR6:=hid (HR5.out.on HB1.out)
   have HT3:=hid (HT2.out.on HB1.out)
   obtain⟨m0,m1,m2⟩:=HBX.out w3 HK3.out
   cases kp with
   | false =>
    have HTA:=hid (H.table A1 A2 (some ad3) A5 n1 n2 n3 now.length c1 c2 c3 c5 P C now Z 0 w3 (HCF.out.on HK3.out) HR6.out (by omega) q4 (by omega) hc5 (by omega) HPE.out (fun _=>HFZ.out) fun V hv=>HPF.out A5 c5 V (HR6.out.on hv) hc5)
    rw[HAG.out rfl] at HTA
    go_wp2_with fail
    refine HTA.out.mono ?_
    rintro e w4 ⟨A6,c6,rfl,hr7,hc6,hb7⟩
    dsimp only[Rep.v] at hr7 hc6 ⊢
    have HR7:=hid hr7
    have HK4:=hid (HK3.out.trans (hb7.mono HK3.out.size))
    have HR8:=hid (HR6.out.on hb7)
    have HV4:=hid (HV1.out.on hb7)
    clear hr7 hb7 m0 m1 m2 HTA HV1
    go_upto_region 7 with fail
    have hv2:Vec (w4.alloc (.cells #[.int .i64 0,.int .i64 Z.length,.int .i64 Z.length,.int .i64 now.length,.int .i64 now.length,.bool false] 45)) w4.heap.size 6 (fun j=>if j=0 then .int .i64 0 else if j=1 then .int .i64 Z.length else if j=2 then .int .i64 Z.length else if j=3 then .int .i64 now.length else if j=4 then .int .i64 now.length else .bool false):=Vec.lit _ _ _ 6 _ fun j hj=>by rcases(by omega:j=0∨j=1∨j=2∨j=3∨j=4∨j=5) with rfl | rfl | rfl | rfl | rfl | rfl <;> rfl
    have HV2:=hid hv2
    have HB2:=hid (bl1 w4 (.cells #[.int .i64 0,.int .i64 Z.length,.int .i64 Z.length,.int .i64 now.length,.int .i64 now.length,.bool false] 45))
    clear hv2
    generalize w4.alloc (.cells #[.int .i64 0,.int .i64 Z.length,.int .i64 Z.length,.int .i64 now.length,.int .i64 now.length,.bool false] 45)=w5 at HV2 HB2 ⊢
    obtain⟨g2,hg2⟩:∃ g,g=w4.heap.size:=⟨_,rfl⟩
    rw[← hg2] at HV2 ⊢
    clear hg2
    have HK5:=hid (HK4.out.trans (HB2.out.mono HK4.out.size))
    have HNO:=hid (rnodes_any A5 A6 now.length now.length c5 c6 now now w5 (HR8.out.on HB2.out) (HR7.out.on HB2.out) (by omega))
    rw[(sameN_iff now now).2 rfl] at HNO
    have HV5:=hid (HV4.out.on HB2.out)
    have a5:w5.cell? ⟨g1,5,none⟩=some (.bool false):=(HV5.out.cell 5 (by omega)).trans rfl
    go_wp2_with fail
    refine HNO.out.mono ?_
    rintro e w6 ⟨rfl,q,rfl⟩
    have hbq:Below w5.heap.size w5 (w5.drewN q):=Below.drewN (Below.refl _ _) q
    have a5:(w5.drewN q).cell? ⟨g1,5,none⟩=some (.bool false):=((HV5.out.drewN q).cell 5 (by omega)).trans rfl
    have b0:(w5.drewN q).cell? ⟨g2,0,none⟩=some (.int .i64 0):=((HV2.out.drewN q).cell 0 (by omega)).trans rfl
    have HK6:=hid (HK5.out.trans (hbq.mono HK5.out.size))
    clear hbq
    go_wp2_with fail
    go_roundw
    case rel=>exact⟨i+1,by omega,by go_num,HK6.out⟩
    case measure=>simp[intOf];omega
   | true =>
    obtain⟨hnow,_⟩:=HTN.out rfl
    have HNW:=hid hnow
    have HTA:=hid (H.table A1 A2 (some ad3) A5 n1 n2 n3 now.length c1 c2 c3 c5 P C now Z 0 w3 (HCF.out.on HK3.out) HR6.out (by omega) q4 (by omega) hc5 (by omega) HPE.out (fun _=>HFZ.out) fun V hv=>HPF.out A5 c5 V (HR6.out.on hv) hc5)
    have HEQ:Hid (tblF P C now Z 0=tblF P C now Z 0):=hid rfl
    obtain⟨⟨l2,⟨mv2,rn2,ws2,nd2,wn2,kp2⟩,ze2⟩,hR2⟩:∃ R,R=tblF P C now Z 0:=⟨_,rfl⟩
    have hz2:ze2=0:=by
     have h0:=tbl_zero HFZ.out HHZ.out (now:=now)
     rw[← hR2] at h0
     exact h0
    subst hz2
    rw[← hR2] at HTA
    clear hnow hR2 HEQ
    go_wp2_with fail
    refine HTA.out.mono ?_
    rintro e w4 ⟨A6,c6,rfl,hr7,hc6,hb7⟩
    dsimp only[Rep.v] at hr7 hc6 ⊢
    have HK4:=hid (HK3.out.trans (hb7.mono HK3.out.size))
    have HR8:=hid (HR6.out.on hb7)
    have HV4:=hid (HV1.out.on hb7)
    have HT4:=hid (HT3.out.on hb7)
    clear hr7 hb7 m0 m1 m2 HTA HV1
    go_upto_region 7 with fail
    have hv2:Vec (w4.alloc (.cells #[.int .i64 mv2,.int .i64 rn2,.int .i64 ws2,.int .i64 nd2,.int .i64 wn2,.bool kp2] 45)) w4.heap.size 6 (fun j=>if j=0 then .int .i64 mv2 else if j=1 then .int .i64 rn2 else if j=2 then .int .i64 ws2 else if j=3 then .int .i64 nd2 else if j=4 then .int .i64 wn2 else .bool kp2):=Vec.lit _ _ _ 6 _ fun j hj=>by rcases(by omega:j=0∨j=1∨j=2∨j=3∨j=4∨j=5) with rfl | rfl | rfl | rfl | rfl | rfl <;> rfl
    have HV2:=hid hv2
    have HB2:=hid (bl1 w4 (.cells #[.int .i64 mv2,.int .i64 rn2,.int .i64 ws2,.int .i64 nd2,.int .i64 wn2,.bool kp2] 45))
    clear hv2
    generalize w4.alloc (.cells #[.int .i64 mv2,.int .i64 rn2,.int .i64 ws2,.int .i64 nd2,.int .i64 wn2,.bool kp2] 45)=w5 at HV2 HB2 ⊢
    obtain⟨g2,hg2⟩:∃ g,g=w4.heap.size:=⟨_,rfl⟩
    rw[← hg2] at HV2 ⊢
    clear hg2
    have HK5:=hid (HK4.out.trans (HB2.out.mono HK4.out.size))
    have hll:now.length=t0.n:=by rw[HNW.out];exact HT4.out.rd.len
    have HNO:=hid (rnodes_any A5 t0.A now.length t0.n c5 t0.c now (t0.x::t0.k.flat) w5 (HR8.out.on HB2.out) (HT4.out.on HB2.out).rd (by omega))
    rw[(sameN_iff now (t0.x::t0.k.flat)).2 HNW.out] at HNO
    have HV5:=hid (HV4.out.on HB2.out)
    have a5:w5.cell? ⟨g1,5,none⟩=some (.bool true):=(HV5.out.cell 5 (by omega)).trans rfl
    clear hll
    go_wp2_with fail
    refine HNO.out.mono ?_
    rintro e w6 ⟨rfl,q,rfl⟩
    have hbq:Below w5.heap.size w5 (w5.drewN q):=Below.drewN (Below.refl _ _) q
    have HK6:=hid (HK5.out.trans (hbq.mono HK5.out.size))
    clear hbq
    go_wp2_with fail
    go_roundw
    case rel=>exact⟨i+1,by omega,by go_num,HK6.out⟩
    case measure=>simp[intOf];omega
  ·have hlti:¬ (i:Int) < (n3:Int):=by omega
   have HKN:=hid (H.known wq)
   clear hb
   go_wp2_with fail
   refine HKN.out.mono ?_
   rintro e w6 ⟨rfl,hb9⟩
   have HFF:=hid (HB.out.trans ((HK.out.trans (hb9.mono HK.out.size)).mono HB.out.size))
   clear hb9 HKN
   go_wp2_with fail
   go_ret
   exact Ans.mk rfl HFF.out
end Go.Proofs.YtfddpnhaejkacaaGreat.reduceAgain
