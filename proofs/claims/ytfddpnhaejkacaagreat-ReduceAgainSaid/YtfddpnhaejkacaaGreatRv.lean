import Derived.Test.YtfddpnhaejkacaaGreatLow12
import Derived.Deep.Cut
set_option linter.unusedSimpArgs false
set_option linter.unusedVariables false
namespace Go.Proofs.YtfddpnhaejkacaaGreat
open Go.RowKit Tab
open Lib (hid)
theorem tblF_len (P:List PtV) (C:List ChV) (t:List Nd) (X:List Rn) (z:Int):(tblF P C t X z).1.length≤t.length:=by
 unfold tblF
 split
 ·exact Nat.zero_le _
 split
 ·exact Nat.zero_le _
 split
 ·exact Nat.le_refl _
 ·rename_i h
  exact Nat.le_of_not_lt h
set_option maxRecDepth 100000 in
set_option maxHeartbeats 8000000 in
theorem ltable_any {fo:Nat} (hW:ReduceW fo) (A1 A2 A3 A:Option Addr) (n1 n2 n3 n c1 c2 c3 c:Nat) (P:List PtV) (C:List ChV) (t:List Nd) (X:List Rn) (z:Int) (w:World) (hCf:CfW w w.heap.size A1 A2 n1 n2 P C) (hT:RdN w w.heap.size A n t)
  (q1:n1≤6) (q1c:n1≤c1) (q2:n2≤1048576) (hc:n≤c) (hn:n≤1048576) (hz:∀ x∈P,In64 x.per) (hF:z=0→Frm X X.length)
  (hO:∀ V,Below w.heap.size w V→Calls Tryz.prog fo #[.slice A n c] V (OfG z X V)) (hR:∀ V,Below w.heap.size w V→Calls Tryz.prog 17 #[.slice A n c] V (OfG z X V)) :
  Calls Tryz.prog 13 #[.agg #[.slice A1 n1 c1,.slice A2 n2 c2,.slice A3 n3 c3],.slice A n c] w (Ans (.bool true) w):=by
 have hb0:=bl1 w (.cells #[.slice A1 n1 c1,.slice A2 n2 c2,.slice A3 n3 c3] 31)
 have hbox:=box_vec w (.slice A1 n1 c1) (.slice A2 n2 c2) (.slice A3 n3 c3) 31
 have HTA:=hid fun V (hv:Below (w.alloc (.cells #[.slice A1 n1 c1,.slice A2 n2 c2,.slice A3 n3 c3] 31)).heap.size (w.alloc (.cells #[.slice A1 n1 c1,.slice A2 n2 c2,.slice A3 n3 c3] 31)) V)=>hW.table A1 A2 A3 A n1 n2 n3 n c1 c2 c3 c P C t X z V ((hCf.on hb0).on hv) ((hT.on hb0).on hv) q1 q1c q2 hc hn hz hF fun V2 h2=>hO V2 ((hb0.trans (hv.mono hb0.size)).trans (h2.mono (Nat.le_trans hb0.size hv.size)))
 have HRT:=hid fun V (hv:Below (w.alloc (.cells #[.slice A1 n1 c1,.slice A2 n2 c2,.slice A3 n3 c3] 31)).heap.size (w.alloc (.cells #[.slice A1 n1 c1,.slice A2 n2 c2,.slice A3 n3 c3] 31)) V)=>rtbl_any A1 A2 A3 A n1 n2 n3 n c1 c2 c3 c P C t X z V ((hCf.on hb0).on hv) ((hT.on hb0).on hv) (by omega) q2 hc hn hz hF fun V2 h2=>hR V2 ((hb0.trans (hv.mono hb0.size)).trans (h2.mono (Nat.le_trans hb0.size hv.size)))
 have HB0:=hid hb0
 obtain⟨⟨l,⟨mv,rn,ws,nd,wn,kp⟩,ze⟩,hRR⟩:∃ R,R=tblF P C t X z:=⟨_,rfl⟩
 rw[← hRR] at HTA HRT
 have HLE:Hid (l.length≤1048576):=hid (by have h1:=tblF_len P C t X z;have h2:=hT.len;rw[← hRR] at h1;exact Nat.le_trans h1 (by omega))
 clear hCf hT hb0 hz hF hO hR hRR hW
 go_enter Tryz.func13,Tryz.ntmps13
 go_upto_region 1 with fail
 generalize w.alloc (.cells #[.slice A1 n1 c1,.slice A2 n2 c2,.slice A3 n3 c3] 31)=W at hbox HTA HRT HB0 ⊢
 have HBX:=hid fun V (hv:Below W.heap.size W V)=>(hbox.on hv).three
 obtain⟨gc,hgc⟩:∃ gc,gc=w.heap.size:=⟨_,rfl⟩
 rw[← hgc] at HBX ⊢
 clear hbox hgc
 obtain⟨m0,m1,m2⟩:=HBX.out W (Below.refl _ _)
 have HT1:=hid (HTA.out W (Below.refl _ _))
 go_wp2_with fail
 refine HT1.out.mono ?_
 rintro e w1 ⟨A5,c5,rfl,ho5,hc5,hb5⟩
 dsimp only[Rep.v] at ho5 ⊢
 have HO5:=hid ho5
 have HK1:=hid hb5
 clear m0 m1 m2 HT1 ho5 hb5
 go_upto_region 2 with fail
 have hv1:Vec (w1.alloc (.cells #[.int .i64 mv,.int .i64 rn,.int .i64 ws,.int .i64 nd,.int .i64 wn,.bool kp] 45)) w1.heap.size 6 (fun j=>if j=0 then .int .i64 mv else if j=1 then .int .i64 rn else if j=2 then .int .i64 ws else if j=3 then .int .i64 nd else if j=4 then .int .i64 wn else .bool kp):=Vec.lit _ _ _ 6 _ fun j hj=>by rcases(by omega:j=0∨j=1∨j=2∨j=3∨j=4∨j=5) with rfl | rfl | rfl | rfl | rfl | rfl <;> rfl
 have HV1:=hid hv1
 have HB1:=hid (bl1 w1 (.cells #[.int .i64 mv,.int .i64 rn,.int .i64 ws,.int .i64 nd,.int .i64 wn,.bool kp] 45))
 clear hv1
 generalize w1.alloc (.cells #[.int .i64 mv,.int .i64 rn,.int .i64 ws,.int .i64 nd,.int .i64 wn,.bool kp] 45)=W2 at HV1 HB1 ⊢
 obtain⟨g1,hg1⟩:∃ g1,g1=w1.heap.size:=⟨_,rfl⟩
 rw[← hg1] at HV1 ⊢
 clear hg1
 have HK2:=hid (HK1.out.trans (HB1.out.mono HK1.out.size))
 obtain⟨m0,m1,m2⟩:=HBX.out W2 HK2.out
 have HT2:=hid (HRT.out W2 HK2.out)
 go_wp2_with fail
 refine HT2.out.mono ?_
 rintro e w3 ⟨A6,c6,rfl,ho6,hb6⟩
 dsimp only[Rep.v] at ho6 ⊢
 have HO6:=hid ho6
 have HK3:=hid (HK2.out.trans (hb6.mono HK2.out.size))
 have HQ3:=hid hb6
 clear m0 m1 m2 HT2 ho6 hb6
 go_upto_region 3 with fail
 have hv2:Vec (w3.alloc (.cells #[.int .i64 mv,.int .i64 rn,.int .i64 ws,.int .i64 nd,.int .i64 wn,.bool kp] 45)) w3.heap.size 6 (fun j=>if j=0 then .int .i64 mv else if j=1 then .int .i64 rn else if j=2 then .int .i64 ws else if j=3 then .int .i64 nd else if j=4 then .int .i64 wn else .bool kp):=Vec.lit _ _ _ 6 _ fun j hj=>by rcases(by omega:j=0∨j=1∨j=2∨j=3∨j=4∨j=5) with rfl | rfl | rfl | rfl | rfl | rfl <;> rfl
 have HV2:=hid hv2
 have HB2:=hid (bl1 w3 (.cells #[.int .i64 mv,.int .i64 rn,.int .i64 ws,.int .i64 nd,.int .i64 wn,.bool kp] 45))
 clear hv2
 generalize w3.alloc (.cells #[.int .i64 mv,.int .i64 rn,.int .i64 ws,.int .i64 nd,.int .i64 wn,.bool kp] 45)=W4 at HV2 HB2 ⊢
 obtain⟨g2,hg2⟩:∃ g2,g2=w3.heap.size:=⟨_,rfl⟩
 rw[← hg2] at HV2 ⊢
 clear hg2
 have HQ4:=hid (HQ3.out.trans (HB2.out.mono HQ3.out.size))
 have HK4:=hid (HK2.out.trans (HQ4.out.mono HK2.out.size))
 have HNO:=hid (rnodes_any A5 A6 l.length l.length c5 c6 l l W4 (HO5.out.on (HB1.out.trans (HQ4.out.mono HB1.out.size))) (HO6.out.rdn.on HB2.out) HLE.out)
 rw[(sameN_iff l l).2 rfl] at HNO
 have HV3:=hid (HV1.out.on HQ4.out)
 go_wp2_with fail
 refine HNO.out.mono ?_
 rintro e w5 ⟨rfl,q,rfl⟩
 have hbq:Below W4.heap.size W4 (W4.drewN q):=Below.drewN (Below.refl _ _) q
 have a0:(W4.drewN q).cell? ⟨g1,0,none⟩=some (.int .i64 mv):=((HV3.out.drewN q).cell 0 (by omega)).trans rfl
 have a1:(W4.drewN q).cell? ⟨g1,1,none⟩=some (.int .i64 rn):=((HV3.out.drewN q).cell 1 (by omega)).trans rfl
 have a2:(W4.drewN q).cell? ⟨g1,2,none⟩=some (.int .i64 ws):=((HV3.out.drewN q).cell 2 (by omega)).trans rfl
 have a3:(W4.drewN q).cell? ⟨g1,3,none⟩=some (.int .i64 nd):=((HV3.out.drewN q).cell 3 (by omega)).trans rfl
 have a4:(W4.drewN q).cell? ⟨g1,4,none⟩=some (.int .i64 wn):=((HV3.out.drewN q).cell 4 (by omega)).trans rfl
 have a5:(W4.drewN q).cell? ⟨g1,5,none⟩=some (.bool kp):=((HV3.out.drewN q).cell 5 (by omega)).trans rfl
 have b0:(W4.drewN q).cell? ⟨g2,0,none⟩=some (.int .i64 mv):=((HV2.out.drewN q).cell 0 (by omega)).trans rfl
 have b1:(W4.drewN q).cell? ⟨g2,1,none⟩=some (.int .i64 rn):=((HV2.out.drewN q).cell 1 (by omega)).trans rfl
 have b2:(W4.drewN q).cell? ⟨g2,2,none⟩=some (.int .i64 ws):=((HV2.out.drewN q).cell 2 (by omega)).trans rfl
 have b3:(W4.drewN q).cell? ⟨g2,3,none⟩=some (.int .i64 nd):=((HV2.out.drewN q).cell 3 (by omega)).trans rfl
 have b4:(W4.drewN q).cell? ⟨g2,4,none⟩=some (.int .i64 wn):=((HV2.out.drewN q).cell 4 (by omega)).trans rfl
 have b5:(W4.drewN q).cell? ⟨g2,5,none⟩=some (.bool kp):=((HV2.out.drewN q).cell 5 (by omega)).trans rfl
 have HFF:=hid (HB0.out.trans ((HK4.out.trans (hbq.mono HK4.out.size)).mono HB0.out.size))
 clear hbq
 go_wp2_with fail
 go_ret
 exact Ans.mk rfl HFF.out
end Go.Proofs.YtfddpnhaejkacaaGreat
