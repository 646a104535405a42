import Derived.Test.YtfddpnhaejkacaaGreatSc
set_option linter.unusedSimpArgs false
set_option linter.unusedVariables false
namespace Go.Proofs.YtfddpnhaejkacaaGreat
open Go.RowKit Tab
open Lib (hid)
set_option maxRecDepth 100000 in
set_option maxHeartbeats 400000 in
theorem depz_any (A1 A2 A3:Option Addr) (n1 n2 n3 c1 c2 c3:Nat) (P:List PtV) (C:List ChV) (w:World) (hCf:CfW w w.heap.size A1 A2 n1 n2 P C) (q1:n1≤6) (q1c:n1≤c1) (q2:n2≤1048576) :
  Calls Tryz.prog 58 #[.agg #[.slice A1 n1 c1,.slice A2 n2 c2,.slice A3 n3 c3]] w (MadM n1 (depF (P.map ptOf) (C.map chOf)) w):=by
 have hb0:=bl1 w (.cells #[.slice A1 n1 c1,.slice A2 n2 c2,.slice A3 n3 c3] 31)
 have hbox:=box_vec w (.slice A1 n1 c1) (.slice A2 n2 c2) (.slice A3 n3 c3) 31
 have hbx2:=hbox.set 0 (.slice A1 n1 c1)
 have hb1:=hb0.setCell (p:=⟨w.heap.size,0,none⟩) (Nat.le_refl _) (.slice A1 n1 c1)
 have HCF:=hid (hCf.on hb1)
 have HB1:=hid hb1
 have HDP:=hid (depends_any A1 A2 A3 n1 n2 n3 c1 c2 c3 P C _ (hCf.on hb1) (by omega) q2)
 clear hCf hb0 hb1
 go_enter Tryz.func58,Tryz.ntmps58
 go_upto_region 1 with fail
 generalize w.alloc (.cells #[.slice A1 n1 c1,.slice A2 n2 c2,.slice A3 n3 c3] 31)=W at hbox hbx2 HB1 HDP HCF ⊢
 obtain⟨gc,hgc⟩:∃ gc,gc=w.heap.size:=⟨_,rfl⟩
 rw[← hgc] at hbox hbx2 HDP HCF ⊢
 have HB1:Hid (Below w.heap.size w (W.setCell ⟨gc,0,none⟩ (.slice A1 n1 c1))):=by rw[hgc];exact HB1
 obtain⟨m0,m1,m2⟩:=hbox.three
 have m0z:=hbox.thaw 0
 have k0:(W.setCell ⟨gc,0,none⟩ (.slice A1 n1 c1)).cell? ⟨gc,0,none⟩=some (.slice A1 n1 c1):=(hbx2.cell 0 (by omega)).trans rfl
 have k1:(W.setCell ⟨gc,0,none⟩ (.slice A1 n1 c1)).cell? ⟨gc,1,none⟩=some (.slice A2 n2 c2):=(hbx2.cell 1 (by omega)).trans rfl
 have k2:(W.setCell ⟨gc,0,none⟩ (.slice A1 n1 c1)).cell? ⟨gc,2,none⟩=some (.slice A3 n3 c3):=(hbx2.cell 2 (by omega)).trans rfl
 have hmin:min (n1:Int) 6=(n1:Int):=by omega
 clear hbox hbx2 hgc
 go_upto_region 2 with fail
 clear hmin m0 m1 m2 m0z
 generalize W.setCell ⟨gc,0,none⟩ (.slice A1 n1 c1)=W2 at k0 k1 k2 HB1 HDP HCF ⊢
 go_wp2_with fail
 refine HDP.out.mono ?_
 intro e w5 hdm
 obtain⟨A7,c7,rfl,hc7,hm7,hb7⟩:=hdm.m
 have HM7:=hid hm7
 have HB7:=hid hb7
 clear hdm hm7 hb7 HDP
 go_wp2_with fail
 go_ret
 exact⟨A7,c7,rfl,hc7,HM7.out,HB1.out.trans (HB7.out.mono HB1.out.size)⟩
set_option maxRecDepth 100000 in
set_option maxHeartbeats 4000000 in
theorem valid_any (A1 A2 A3 A B:Option Addr) (n1 n2 n3 n m c1 c2 c3 c d:Nat) (P:List PtV) (C:List ChV) (L X:List Rn) (w:World) (hCf:CfW w w.heap.size A1 A2 n1 n2 P C) (hL:RdR w w.heap.size A n L) (hX:RdR w w.heap.size B m X)
  (q1:n1≤6) (q1c:n1≤c1) (q2:n2≤1048576) (hc:n≤c) (hd:m≤d) (hn:n≤1024) (ht:ticks L≤8192) (hz:∀ x∈P,In64 x.per) (hF:Frm X m) :
  Calls Tryz.prog 29 #[.agg #[.slice A1 n1 c1,.slice A2 n2 c2,.slice A3 n3 c3],.slice A n c,.slice B m d] w (Ans (.bool (validF P C L X)) w):=by
 have hb0:=bl1 w (.cells #[.slice A1 n1 c1,.slice A2 n2 c2,.slice A3 n3 c3] 31)
 have hbox:=box_vec w (.slice A1 n1 c1) (.slice A2 n2 c2) (.slice A3 n3 c3) 31
 have hPl:P.length=n1:=hCf.p.len
 have hle:=hF.le
 have htk:=hF.tk
 have HCF:=hid (hCf.on hb0)
 have HR:=hid (hL.on hb0)
 have HX:=hid (hX.on hb0)
 have HB0:=hid hb0
 have HVF:Hid (validF P C L X=(decide (holdsF (wordsL X) P C=0) && !(diffF (depW n1 (depF (P.map ptOf) (C.map chOf))) L X).2.2)):=hid (by unfold validF okF depP;rw[hPl,Bool.and_comm])
 have HRG:=hid (frame_right B m d X _ (hX.on hb0) hd hF.pos hF.le hF.tk hF.all)
 have HZ:=hid hz
 generalize validF P C L X=v at HVF ⊢
 clear hCf hL hX hb0 hz hPl hF
 go_enter Tryz.func29,Tryz.ntmps29
 go_upto_region 1 with fail
 generalize w.alloc (.cells #[.slice A1 n1 c1,.slice A2 n2 c2,.slice A3 n3 c3] 31)=W at hbox HRG HCF HR HX HB0 ⊢
 obtain⟨gc,hgc⟩:∃ gc,gc=w.heap.size:=⟨_,rfl⟩
 rw[← hgc] at hbox ⊢
 clear hgc
 have HBX:=hid fun V (hv:Below W.heap.size W V)=>(hbox.on hv).three
 clear hbox
 go_wp2_with fail
 refine HRG.out.mono ?_
 rintro e w5 ⟨rfl,hb5⟩
 have HK5:=hid hb5
 obtain⟨m0,m1,m2⟩:=HBX.out w5 hb5
 have HHO:=hid (bholds_any A1 A2 A3 B n1 n2 n3 m c1 c2 c3 d P C X w5 (HCF.out.on hb5).p (HCF.out.on hb5).c (HX.out.on hb5) (by omega) q2 hd (by omega) (by omega) HZ.out)
 generalize holdsF (wordsL X) P C=hh at HHO HVF
 clear hb5 HRG
 by_cases h0:hh=0
 ·subst h0
  go_wp2_with fail
  refine HHO.out.mono ?_
  rintro e w6 ⟨rfl,hb6⟩
  have hk6:=HK5.out.trans (hb6.mono HK5.out.size)
  have HK6:=hid hk6
  have HDP:=hid (depz_any A1 A2 A3 n1 n2 n3 c1 c2 c3 P C w6 (HCF.out.on hk6) q1 q1c q2)
  clear m0 m1 m2 hb6 HHO
  obtain⟨m0,m1,m2⟩:=HBX.out w6 hk6
  clear hk6
  go_wp2_with fail
  refine HDP.out.mono ?_
  rintro e w7 ⟨A7,c7,rfl,hc7,hm7,hb7⟩
  have hk7:=HK6.out.trans (hb7.mono HK6.out.size)
  have HK7:=hid hk7
  have HSM:=hid (wsame_any A B A7 n m n1 c d c7 L X (depF (P.map ptOf) (C.map chOf)) w7 (HR.out.on hk7) (HX.out.on hk7) hm7 hc hd (by omega) (by omega) (by omega) (by omega) (by omega))
  generalize (diffF (depW n1 (depF (P.map ptOf) (C.map chOf))) L X).2.2=bb at HSM HVF
  clear m0 m1 m2 hb7 hk7 hm7 HDP
  go_wp2_with fail
  refine HSM.out.mono ?_
  rintro e w8 ⟨rfl,hb8⟩
  have HK8:=hid (HB0.out.trans ((HK7.out.trans (hb8.mono HK7.out.size)).mono HB0.out.size))
  clear hb8 HSM
  go_wp2_with fail
  go_ret
  exact Ans.mk (by rw[HVF.out];simp) HK8.out
 ·have h0b:(hh == 0)=false:=beq_eq_false_iff_ne.2 h0
  have hvf:v=false:=by rw[HVF.out,decide_eq_false h0];rfl
  go_wp2_with fail
  refine HHO.out.mono ?_
  rintro e w6 ⟨rfl,hb6⟩
  have HK6:=hid (HB0.out.trans ((HK5.out.trans (hb6.mono HK5.out.size)).mono HB0.out.size))
  clear m0 m1 m2 hb6 HHO
  go_wp2_with fail
  go_ret
  exact Ans.mk (by rw[hvf];rfl) HK6.out
end Go.Proofs.YtfddpnhaejkacaaGreat
