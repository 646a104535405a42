import Derived.Test.YtgoeikihjffeoaaGreatYh
import Derived.Test.YtgoeikihjffeoaaGreatYj
import Derived.Test.YtgoeikihjffeoaaGreatLow3
set_option linter.unusedSimpArgs false
set_option linter.unusedVariables false
namespace Go.Proofs.YtgoeikihjffeoaaGreat
open Go.RowKit Tab
open Lib (hid)
structure SmX (m:Nat) (x:Cf):Prop where
 p1:1≤x.n1
 p2:x.n1≤m
 c:x.n2≤m
 t:x.n3≤m
 pr:∀ y∈x.P,y.1.pn≤m
 nd:∀ y∈x.T,y.n≤1024+m
def OdV (m:Nat) (v:Value) (w:World):Prop:=∃ y,v=cfv y∧CfR w y∧SmX m y
theorem OdV.on {m:Nat} {v:Value} {w w':World} (h:OdV m v w) (hb:Below w.heap.size w w'):OdV m v w':=by
 obtain⟨y,h1,h2,h3⟩:=h
 exact⟨y,h1,h2.on hb,h3⟩
def OdA (m:Nat) (w:World) (e:Ending) (w':World):Prop:=∃ y,e=.returned (cfv y)∧CfR w' y∧SmX m y∧Below w.heap.size w w'
theorem In64.and (a:Int) (m:Nat) (hm:m < 9223372036854775808):In64 (bits .and .i64 a (m:Int)):=by
 obtain⟨M,hM,hle⟩:=and_mask a m hm
 rw[hM]
 unfold In64
 omega
structure OddW:Prop where
 odd:∀(m:Nat) (x:Cf) (a b:Int) (w:World),m≤64→CfR w x→SmX m x→In64 b→Calls Tryz.prog 10 #[cfv x,.int .i64 a,.int .i64 b] w (OdA (m+16) w)
structure TapeC:Prop where
 cfg:∀(A:Option Addr) (n cap:Nat) (f:Nat→Int) (w:World),RdC w w.heap.size A n (fun j=>.int .i64 (f j))→n≤140737488351232 →
  Calls Tryz.prog 7 #[.pointer (some ⟨w.heap.size,0,none⟩)] (w.alloc (.cells #[.slice A n cap,.int .i64 0] 31)) (fun e w'=>∃ y,e=.returned (cfv y)∧CfR w' y∧SmX 16 y∧Below w.heap.size w w')
set_option maxRecDepth 100000 in
set_option maxHeartbeats 2000000 in
theorem tells12_walk (hW:ConfigW) (hO:OddW) (hT:TapeC) (A:Option Addr) (n cap:Nat) (f:Nat→Int) (a1 a2 a3 a4:Int) (hi3:In64 a3) (r:Cf) (s:ByteArray) (w:World) (hA:RdC w w.heap.size A n fun j=>.int .i64 (f j)) (hn:n≤140737488351232) (hr:CfR w r) (b1:r.c1≤maxLen) (b2:r.c2≤maxLen) (b3:r.c3≤maxLen) (hs:s.size≤140737488351232) :
  Calls Tryz.prog 4 #[.slice A n cap,.int .i64 a1,.int .i64 a2,.int .i64 a3,.int .i64 a4,cfv r,.string s] w (Ans (.bool true) w):=by
 have HI3:=hid hi3
 have HWW:=hid hW
 have HKN:=hid fun V=>known12_any hW V
 have HSA:=hid fun V (z:Cf) (hz:CfR V z)=>lsame12_any hW z V hz
 have HN1:=hid fun V=>hW.name s V hs
 have HN2:Hid (∀ V,Calls Tryz.prog 12 #[.string s] V (Ans (.bool (nameF s)) V)):=hid fun V=>(xname_any s V hs).mono fun e w' h=>by
  obtain⟨rfl,rfl⟩:=h
  exact Ans.mk rfl (Below.refl _ _)
 generalize nameF s=nb at HN1 HN2
 have HO:=hid hO
 have HT:=hid hT
 have u0:=bl1 w (.cells #[.slice r.A1 r.n1 r.c1,.slice r.A2 r.n2 r.c2,.slice r.A3 r.n3 r.c3] 26)
 have hx:=box_vec w (.slice r.A1 r.n1 r.c1) (.slice r.A2 r.n2 r.c2) (.slice r.A3 r.n3 r.c3) 26
 obtain⟨W,hWe⟩:∃ W,W=w.alloc (.cells #[.slice r.A1 r.n1 r.c1,.slice r.A2 r.n2 r.c2,.slice r.A3 r.n3 r.c3] 26):=⟨_,rfl⟩
 rw[← hWe] at u0 hx
 have HWE:=hid hWe
 have HU0:=hid u0
 have HRR:=hid (hr.on u0)
 have HX:=hid hx
 have HCF:=hid (HT.out.cfg A n cap f W ((hA.below u0).more u0.size) hn)
 have HB1:=hid b1
 have HB2:=hid b2
 have HB3:=hid b3
 clear hW hO hT hWe u0 hr hx hA hn b1 b2 b3 hs
 go_enter Tryz.func4,Tryz.ntmps4
 go_upto_region 1 with fail
 rw[← HWE.out]
 clear HWE
 go_wp2_with fail
 refine HCF.out.mono ?_
 rintro e w1 ⟨x,rfl,hxR,hxS,hb1⟩
 have HB4:=hid (HU0.out.trans (hb1.mono HU0.out.size))
 have HXR:=hid hxR
 have HXS:=hid hxS
 have hxb:=box_vec w1 (.slice x.A1 x.n1 x.c1) (.slice x.A2 x.n2 x.c2) (.slice x.A3 x.n3 x.c3) 26
 have u2:=bl1 w1 (.cells #[.slice x.A1 x.n1 x.c1,.slice x.A2 x.n2 x.c2,.slice x.A3 x.n3 x.c3] 26)
 obtain⟨W2,hW2⟩:∃ W,W=w1.alloc (.cells #[.slice x.A1 x.n1 x.c1,.slice x.A2 x.n2 x.c2,.slice x.A3 x.n3 x.c3] 26):=⟨_,rfl⟩
 rw[← hW2] at hxb u2
 have HW2:=hid hW2
 have HU2:=hid u2
 have HXB:=hid hxb
 have HRB:=hid (HX.out.on (hb1.trans (u2.mono hb1.size)))
 have HFW:=hid (lfew12_any r W2 (HRR.out.on (hb1.trans (u2.mono hb1.size))) HB1.out HB2.out HB3.out)
 clear hxR hxS hxb u2 hW2 hb1 HCF HX HRR
 have HB5:=hid (HB4.out.trans (HU2.out.mono HB4.out.size))
 obtain⟨n0,n1,n2⟩:=HRB.out.three
 go_upto_region 2 with fail
 rw[← HW2.out]
 go_wp2_with fail
 refine HFW.out.mono ?_
 rintro e w3 ⟨rfl,hyR,hb3⟩
 generalize fewX r=y at hyR ⊢
 clear n0 n1 n2 HRB HFW HB1 HB2 HB3
 have hyb:=box_vec w3 (.slice y.A1 y.n1 y.c1) (.slice y.A2 y.n2 y.c2) (.slice y.A3 y.n3 y.c3) 26
 have u4:=bl1 w3 (.cells #[.slice y.A1 y.n1 y.c1,.slice y.A2 y.n2 y.c2,.slice y.A3 y.n3 y.c3] 26)
 obtain⟨W3,hW3⟩:∃ W,W=w3.alloc (.cells #[.slice y.A1 y.n1 y.c1,.slice y.A2 y.n2 y.c2,.slice y.A3 y.n3 y.c3] 26):=⟨_,rfl⟩
 rw[← hW3] at hyb u4
 have HW3:=hid hW3
 have HFF:=hid (HB5.out.trans ((hb3.trans (u4.mono hb3.size)).mono HB5.out.size))
 have HYB:=hid hyb
 have HXB3:=hid (HXB.out.on (hb3.trans (u4.mono hb3.size)))
 have HXR3:=hid (((HXR.out.on HU2.out).on hb3).on u4)
 have HYR3:=hid (hyR.on u4)
 clear hyR hyb u4 hW3 hb3
 have HSX:=hid fun V (hv:Below W3.heap.size W3 V)=>HSA.out V x (HXR3.out.on hv)
 have HSY:=hid fun V (hv:Below W3.heap.size W3 V)=>HSA.out V y (HYR3.out.on hv)
 have HOX:=hid fun V (hv:Below W3.heap.size W3 V) (p q:Int) (hq:In64 q)=>HO.out.odd 16 x p q V (by omega) (HXR3.out.on hv) HXS.out hq
 have HOZ:=hid fun V (z:Cf) (p q:Int) (h1:CfR V z) (h2:SmX 32 z) (hq:In64 q)=>HO.out.odd 32 z p q V (by omega) h1 h2 hq
 have HE1:=hid fun V (hv:Below W3.heap.size W3 V)=>HWW.out.same x y V (HXR3.out.on hv) (HYR3.out.on hv)
 have HE2:=hid fun V (hv:Below W3.heap.size W3 V)=>(HXR3.out.on hv).rsame (HYR3.out.on hv)
 generalize sameF x.P x.C x.T y.P y.C y.T=sb at HE1 HE2
 obtain⟨m0,m1,m2⟩:=HXB3.out.three
 obtain⟨n0,n1,n2⟩:=HYB.out.three
 clear HXR HXS HXB HYB HXB3 HXR3 HYR3 HWW HO HT HU0 HU2 HB4 HB5
 go_upto_region 3 with fail
 rw[← HW3.out]
 clear HW2 HW3
 generalize w1.heap.size=g1 at m0 m1 m2 ⊢
 generalize w3.heap.size=g2 at n0 n1 n2 ⊢
 refine Rgs.region (by kernel_rfl) (by kernel_rfl) (fun(opn:Nat) (vl:Value) (wv:World)=>match opn with | 0=>vl=.agg #[.slice x.A1 x.n1 x.c1,.slice x.A2 x.n2 x.c2,.slice x.A3 x.n3 x.c3] | 1=>vl=.bool true | 2=>vl=.bool true | 3=>vl=.agg #[.slice x.A1 x.n1 x.c1,.slice x.A2 x.n2 x.c2,.slice x.A3 x.n3 x.c3] | 4=>vl=.int .i64 a1 | 5=>vl=.int .i64 a3 | 6=>OdV 32 vl wv | 7=>vl=.bool true | 8=>vl=.bool true | 9=>vl=.bool true | 10=>vl=.agg #[.slice x.A1 x.n1 x.c1,.slice x.A2 x.n2 x.c2,.slice x.A3 x.n3 x.c3] | 11=>vl=.int .i64 a1 | 12=>vl=.int .i64 a3 | 13=>vl=.int .i64 (bits .and .i64 a3 15) | 14=>OdV 32 vl wv | 15=>vl=.bool true | 16=>vl=.bool true | 17=>vl=.bool true | 18=>vl=.agg #[.slice x.A1 x.n1 x.c1,.slice x.A2 x.n2 x.c2,.slice x.A3 x.n3 x.c3] | 19=>vl=.int .i64 a1 | 20=>vl=.int .i64 a3 | 21=>vl=.int .i64 (bits .and .i64 a3 15) | 22=>OdV 32 vl wv | 23=>vl=.int .i64 a2 | 24=>vl=.int .i64 (a2.tmod 10) | 25=>vl=.int .i64 a4 | 26=>vl=.int .i64 (bits .and .i64 a4 255) | 27=>OdV 48 vl wv | 28=>vl=.bool true | 29=>vl=.bool true | 30=>vl=.bool true | 31=>vl=.agg #[.slice y.A1 y.n1 y.c1,.slice y.A2 y.n2 y.c2,.slice y.A3 y.n3 y.c3] | 32=>vl=.bool true | 33=>vl=.bool true | 34=>vl=.bool true | 35=>vl=.string s | 36=>vl=.bool nb | 37=>vl=.string s | 38=>vl=.bool nb | 39=>vl=.bool true | 40=>vl=.bool true | 41=>vl=.bool true | 42=>vl=.agg #[.slice x.A1 x.n1 x.c1,.slice x.A2 x.n2 x.c2,.slice x.A3 x.n3 x.c3] | 43=>vl=.agg #[.slice y.A1 y.n1 y.c1,.slice y.A2 y.n2 y.c2,.slice y.A3 y.n3 y.c3] | 44=>vl=.bool sb | 45=>vl=.agg #[.slice x.A1 x.n1 x.c1,.slice x.A2 x.n2 x.c2,.slice x.A3 x.n3 x.c3] | 46=>vl=.agg #[.slice y.A1 y.n1 y.c1,.slice y.A2 y.n2 y.c2,.slice y.A3 y.n3 y.c3] | 47=>vl=.bool sb | 48=>vl=.bool true | 49=>vl=.bool true | 50=>vl=.bool true | 51=>vl=.bool true | 52=>vl=.bool true | 53=>vl=.bool true | _=>True) (fun _ _ w'=>Below W3.heap.size W3 w') (Below.refl _ _).drew (Rgs.steps_of ?_) ?_
 ·refine⟨?_,?_,?_,?_,?_,?_,?_,?_,?_,?_,?_,?_,?_,?_,?_,?_,?_,?_,?_,?_,?_,?_,?_,?_,?_,?_,?_,?_,?_,?_,?_,?_,?_,?_,?_,?_,?_,?_,?_,?_,?_,?_,?_,?_,?_,?_,?_,?_,?_,?_,?_,?_,?_,?_,trivial⟩ <;> intro a w1 live S E D C h0 hk hW
  ·have e15:a.eval (.tmp 15)=.pointer (some ⟨g1,0,none⟩):=E 15 rfl
   have hc0:=(hW.cell (p:=⟨g1,0,none⟩) (World.block_lt_of_cell? _ _ m0)).trans m0
   have hc1:=(hW.cell (p:=⟨g1,1,none⟩) (World.block_lt_of_cell? _ _ m1)).trans m1
   have hc2:=(hW.cell (p:=⟨g1,2,none⟩) (World.block_lt_of_cell? _ _ m2)).trans m2
   exact Rgs.val rfl (Reg.wanted_free rfl) (.agg #[.slice x.A1 x.n1 x.c1,.slice x.A2 x.n2 x.c2,.slice x.A3 x.n3 x.c3]) (by have c:=Reg.consts a;generalize a.eval=ρ at *;simp[execOp,go_sem,c.1,c.2,e15,hc0,hc1,hc2]) rfl hW
  ·have d0:a.eval (.tmp 23)=.agg #[.slice x.A1 x.n1 x.c1,.slice x.A2 x.n2 x.c2,.slice x.A3 x.n3 x.c3]:=D 0 rfl _ _ rfl rfl
   have d0:a.eval (.tmp 23)=.agg #[.slice x.A1 x.n1 x.c1,.slice x.A2 x.n2 x.c2,.slice x.A3 x.n3 x.c3]:=D 0 rfl _ _ rfl rfl
   refine Rgs.call rfl (Reg.wanted_free rfl) 8 #[.agg #[.slice x.A1 x.n1 x.c1,.slice x.A2 x.n2 x.c2,.slice x.A3 x.n3 x.c3]] (by have c:=Reg.consts a;generalize a.eval=ρ at *;simp[execOp,go_sem,c.1,c.2,d0]) ?_
   refine(HSX.out w1 hW).mono ?_
   rintro e w5 ⟨rfl,hb5⟩
   exact⟨_,rfl,rfl,hW.trans (hb5.mono hW.size),fun jq vq _ hq=>by
     revert hq
     match jq with
     | 6=>exact fun h=>h.on hb5
     | 14=>exact fun h=>h.on hb5
     | 22=>exact fun h=>h.on hb5
     | 27=>exact fun h=>h.on hb5
     | 0 | 1 | 2 | 3 | 4 | 5 | 7 | 8 | 9 | 10 | 11 | 12 | 13 | 15 | 16 | 17 | 18 | 19 | 20 | 21 | 23 | 24 | 25 | 26 | 28 | 29 | 30 | 31 | 32 | 33 | 34 | 35 | 36 | 37 | 38 | 39 | 40 | 41 | 42 | 43 | 44 | 45 | 46 | 47 | 48 | 49 | 50 | 51 | 52 | 53 | _+54=>exact fun h=>h⟩
  ·have d1:a.eval (.tmp 24)=.bool true:=D 1 rfl _ _ rfl rfl
   exact Rgs.val rfl (Reg.wanted_free rfl) (.bool true) (by have c:=Reg.consts a;generalize a.eval=ρ at *;simp[execOp,go_sem,c.1,c.2,d1]) rfl hW
  ·have dg:a.eval (.tmp 25)=.bool true:=D 2 rfl _ _ rfl rfl
   have e15:a.eval (.tmp 15)=.pointer (some ⟨g1,0,none⟩):=E 15 rfl
   have hc0:=(hW.cell (p:=⟨g1,0,none⟩) (World.block_lt_of_cell? _ _ m0)).trans m0
   have hc1:=(hW.cell (p:=⟨g1,1,none⟩) (World.block_lt_of_cell? _ _ m1)).trans m1
   have hc2:=(hW.cell (p:=⟨g1,2,none⟩) (World.block_lt_of_cell? _ _ m2)).trans m2
   exact Rgs.val rfl (Reg.wanted_if rfl rfl dg rfl) (.agg #[.slice x.A1 x.n1 x.c1,.slice x.A2 x.n2 x.c2,.slice x.A3 x.n3 x.c3]) (by have c:=Reg.consts a;generalize a.eval=ρ at *;simp[execOp,go_sem,c.1,c.2,e15,hc0,hc1,hc2]) rfl hW
  ·have dg:a.eval (.tmp 25)=.bool true:=D 2 rfl _ _ rfl rfl
   have e1:a.eval (.tmp 1)=.int .i64 a1:=E 1 rfl
   exact Rgs.val rfl (Reg.wanted_if rfl rfl dg rfl) (.int .i64 a1) (by have c:=Reg.consts a;generalize a.eval=ρ at *;simp[execOp,go_sem,c.1,c.2,e1]) rfl hW
  ·have dg:a.eval (.tmp 25)=.bool true:=D 2 rfl _ _ rfl rfl
   have e3:a.eval (.tmp 3)=.int .i64 a3:=E 3 rfl
   exact Rgs.val rfl (Reg.wanted_if rfl rfl dg rfl) (.int .i64 a3) (by have c:=Reg.consts a;generalize a.eval=ρ at *;simp[execOp,go_sem,c.1,c.2,e3]) rfl hW
  ·have dg:a.eval (.tmp 25)=.bool true:=D 2 rfl _ _ rfl rfl
   have d3:a.eval (.tmp 26)=.agg #[.slice x.A1 x.n1 x.c1,.slice x.A2 x.n2 x.c2,.slice x.A3 x.n3 x.c3]:=D 3 rfl _ _ rfl rfl
   have d4:a.eval (.tmp 27)=.int .i64 a1:=D 4 rfl _ _ rfl rfl
   have d5:a.eval (.tmp 28)=.int .i64 a3:=D 5 rfl _ _ rfl rfl
   have dg:a.eval (.tmp 25)=.bool true:=D 2 rfl _ _ rfl rfl
   have d3:a.eval (.tmp 26)=.agg #[.slice x.A1 x.n1 x.c1,.slice x.A2 x.n2 x.c2,.slice x.A3 x.n3 x.c3]:=D 3 rfl _ _ rfl rfl
   have d4:a.eval (.tmp 27)=.int .i64 a1:=D 4 rfl _ _ rfl rfl
   have d5:a.eval (.tmp 28)=.int .i64 a3:=D 5 rfl _ _ rfl rfl
   refine Rgs.call rfl (Reg.wanted_if rfl rfl dg rfl) 10 #[.agg #[.slice x.A1 x.n1 x.c1,.slice x.A2 x.n2 x.c2,.slice x.A3 x.n3 x.c3],.int .i64 a1,.int .i64 a3] (by have c:=Reg.consts a;generalize a.eval=ρ at *;simp[execOp,go_sem,c.1,c.2,d3,d4,d5]) ?_
   refine(HOX.out w1 hW _ _ HI3.out).mono ?_
   rintro e w5 ⟨z2,rfl,hzR2,hzS2,hb5⟩
   exact⟨_,rfl,⟨z2,rfl,hzR2,hzS2⟩,hW.trans (hb5.mono hW.size),fun jq vq _ hq=>by
     revert hq
     match jq with
     | 6=>exact fun h=>h.on hb5
     | 14=>exact fun h=>h.on hb5
     | 22=>exact fun h=>h.on hb5
     | 27=>exact fun h=>h.on hb5
     | 0 | 1 | 2 | 3 | 4 | 5 | 7 | 8 | 9 | 10 | 11 | 12 | 13 | 15 | 16 | 17 | 18 | 19 | 20 | 21 | 23 | 24 | 25 | 26 | 28 | 29 | 30 | 31 | 32 | 33 | 34 | 35 | 36 | 37 | 38 | 39 | 40 | 41 | 42 | 43 | 44 | 45 | 46 | 47 | 48 | 49 | 50 | 51 | 52 | 53 | _+54=>exact fun h=>h⟩
  ·have dg:a.eval (.tmp 25)=.bool true:=D 2 rfl _ _ rfl rfl
   have dg:a.eval (.tmp 25)=.bool true:=D 2 rfl _ _ rfl rfl
   obtain⟨z,d6,hzR,hzS⟩:=D 6 rfl _ _ rfl rfl
   have d6:a.eval (.tmp 29)=.agg #[.slice z.A1 z.n1 z.c1,.slice z.A2 z.n2 z.c2,.slice z.A3 z.n3 z.c3]:=d6
   refine Rgs.call rfl (Reg.wanted_if rfl rfl dg rfl) 8 #[.agg #[.slice z.A1 z.n1 z.c1,.slice z.A2 z.n2 z.c2,.slice z.A3 z.n3 z.c3]] (by have c:=Reg.consts a;generalize a.eval=ρ at *;simp[execOp,go_sem,c.1,c.2,d6]) ?_
   refine(HSA.out w1 z hzR).mono ?_
   rintro e w5 ⟨rfl,hb5⟩
   exact⟨_,rfl,rfl,hW.trans (hb5.mono hW.size),fun jq vq _ hq=>by
     revert hq
     match jq with
     | 6=>exact fun h=>h.on hb5
     | 14=>exact fun h=>h.on hb5
     | 22=>exact fun h=>h.on hb5
     | 27=>exact fun h=>h.on hb5
     | 0 | 1 | 2 | 3 | 4 | 5 | 7 | 8 | 9 | 10 | 11 | 12 | 13 | 15 | 16 | 17 | 18 | 19 | 20 | 21 | 23 | 24 | 25 | 26 | 28 | 29 | 30 | 31 | 32 | 33 | 34 | 35 | 36 | 37 | 38 | 39 | 40 | 41 | 42 | 43 | 44 | 45 | 46 | 47 | 48 | 49 | 50 | 51 | 52 | 53 | _+54=>exact fun h=>h⟩
  ·have d2:a.eval (.tmp 25)=.bool true:=D 2 rfl _ _ rfl rfl
   have d7:a.eval (.tmp 30)=.bool true:=D 7 rfl _ _ rfl rfl
   exact Rgs.val rfl (Reg.wanted_free rfl) (.bool true) (by have c:=Reg.consts a;generalize a.eval=ρ at *;simp[execOp,go_sem,c.1,c.2,d2,d7]) rfl hW
  ·have d8:a.eval (.tmp 31)=.bool true:=D 8 rfl _ _ rfl rfl
   exact Rgs.val rfl (Reg.wanted_free rfl) (.bool true) (by have c:=Reg.consts a;generalize a.eval=ρ at *;simp[execOp,go_sem,c.1,c.2,d8]) rfl hW
  ·have dg:a.eval (.tmp 32)=.bool true:=D 9 rfl _ _ rfl rfl
   have e15:a.eval (.tmp 15)=.pointer (some ⟨g1,0,none⟩):=E 15 rfl
   have hc0:=(hW.cell (p:=⟨g1,0,none⟩) (World.block_lt_of_cell? _ _ m0)).trans m0
   have hc1:=(hW.cell (p:=⟨g1,1,none⟩) (World.block_lt_of_cell? _ _ m1)).trans m1
   have hc2:=(hW.cell (p:=⟨g1,2,none⟩) (World.block_lt_of_cell? _ _ m2)).trans m2
   exact Rgs.val rfl (Reg.wanted_if rfl rfl dg rfl) (.agg #[.slice x.A1 x.n1 x.c1,.slice x.A2 x.n2 x.c2,.slice x.A3 x.n3 x.c3]) (by have c:=Reg.consts a;generalize a.eval=ρ at *;simp[execOp,go_sem,c.1,c.2,e15,hc0,hc1,hc2]) rfl hW
  ·have dg:a.eval (.tmp 32)=.bool true:=D 9 rfl _ _ rfl rfl
   have e1:a.eval (.tmp 1)=.int .i64 a1:=E 1 rfl
   exact Rgs.val rfl (Reg.wanted_if rfl rfl dg rfl) (.int .i64 a1) (by have c:=Reg.consts a;generalize a.eval=ρ at *;simp[execOp,go_sem,c.1,c.2,e1]) rfl hW
  ·have dg:a.eval (.tmp 32)=.bool true:=D 9 rfl _ _ rfl rfl
   have e3:a.eval (.tmp 3)=.int .i64 a3:=E 3 rfl
   exact Rgs.val rfl (Reg.wanted_if rfl rfl dg rfl) (.int .i64 a3) (by have c:=Reg.consts a;generalize a.eval=ρ at *;simp[execOp,go_sem,c.1,c.2,e3]) rfl hW
  ·have dg:a.eval (.tmp 32)=.bool true:=D 9 rfl _ _ rfl rfl
   have d12:a.eval (.tmp 35)=.int .i64 a3:=D 12 rfl _ _ rfl rfl
   exact Rgs.val rfl (Reg.wanted_if rfl rfl dg rfl) (.int .i64 (bits .and .i64 a3 15)) (by have c:=Reg.consts a;generalize a.eval=ρ at *;simp[execOp,go_sem,c.1,c.2,d12]) rfl hW
  ·have dg:a.eval (.tmp 32)=.bool true:=D 9 rfl _ _ rfl rfl
   have d10:a.eval (.tmp 33)=.agg #[.slice x.A1 x.n1 x.c1,.slice x.A2 x.n2 x.c2,.slice x.A3 x.n3 x.c3]:=D 10 rfl _ _ rfl rfl
   have d11:a.eval (.tmp 34)=.int .i64 a1:=D 11 rfl _ _ rfl rfl
   have d13:a.eval (.tmp 36)=.int .i64 (bits .and .i64 a3 15):=D 13 rfl _ _ rfl rfl
   have dg:a.eval (.tmp 32)=.bool true:=D 9 rfl _ _ rfl rfl
   have d10:a.eval (.tmp 33)=.agg #[.slice x.A1 x.n1 x.c1,.slice x.A2 x.n2 x.c2,.slice x.A3 x.n3 x.c3]:=D 10 rfl _ _ rfl rfl
   have d11:a.eval (.tmp 34)=.int .i64 a1:=D 11 rfl _ _ rfl rfl
   have d13:a.eval (.tmp 36)=.int .i64 (bits .and .i64 a3 15):=D 13 rfl _ _ rfl rfl
   refine Rgs.call rfl (Reg.wanted_if rfl rfl dg rfl) 10 #[.agg #[.slice x.A1 x.n1 x.c1,.slice x.A2 x.n2 x.c2,.slice x.A3 x.n3 x.c3],.int .i64 a1,.int .i64 (bits .and .i64 a3 15)] (by have c:=Reg.consts a;generalize a.eval=ρ at *;simp[execOp,go_sem,c.1,c.2,d10,d11,d13]) ?_
   refine(HOX.out w1 hW _ _ (In64.and a3 15 (by omega))).mono ?_
   rintro e w5 ⟨z2,rfl,hzR2,hzS2,hb5⟩
   exact⟨_,rfl,⟨z2,rfl,hzR2,hzS2⟩,hW.trans (hb5.mono hW.size),fun jq vq _ hq=>by
     revert hq
     match jq with
     | 6=>exact fun h=>h.on hb5
     | 14=>exact fun h=>h.on hb5
     | 22=>exact fun h=>h.on hb5
     | 27=>exact fun h=>h.on hb5
     | 0 | 1 | 2 | 3 | 4 | 5 | 7 | 8 | 9 | 10 | 11 | 12 | 13 | 15 | 16 | 17 | 18 | 19 | 20 | 21 | 23 | 24 | 25 | 26 | 28 | 29 | 30 | 31 | 32 | 33 | 34 | 35 | 36 | 37 | 38 | 39 | 40 | 41 | 42 | 43 | 44 | 45 | 46 | 47 | 48 | 49 | 50 | 51 | 52 | 53 | _+54=>exact fun h=>h⟩
  ·have dg:a.eval (.tmp 32)=.bool true:=D 9 rfl _ _ rfl rfl
   have dg:a.eval (.tmp 32)=.bool true:=D 9 rfl _ _ rfl rfl
   obtain⟨z,d14,hzR,hzS⟩:=D 14 rfl _ _ rfl rfl
   have d14:a.eval (.tmp 37)=.agg #[.slice z.A1 z.n1 z.c1,.slice z.A2 z.n2 z.c2,.slice z.A3 z.n3 z.c3]:=d14
   refine Rgs.call rfl (Reg.wanted_if rfl rfl dg rfl) 8 #[.agg #[.slice z.A1 z.n1 z.c1,.slice z.A2 z.n2 z.c2,.slice z.A3 z.n3 z.c3]] (by have c:=Reg.consts a;generalize a.eval=ρ at *;simp[execOp,go_sem,c.1,c.2,d14]) ?_
   refine(HSA.out w1 z hzR).mono ?_
   rintro e w5 ⟨rfl,hb5⟩
   exact⟨_,rfl,rfl,hW.trans (hb5.mono hW.size),fun jq vq _ hq=>by
     revert hq
     match jq with
     | 6=>exact fun h=>h.on hb5
     | 14=>exact fun h=>h.on hb5
     | 22=>exact fun h=>h.on hb5
     | 27=>exact fun h=>h.on hb5
     | 0 | 1 | 2 | 3 | 4 | 5 | 7 | 8 | 9 | 10 | 11 | 12 | 13 | 15 | 16 | 17 | 18 | 19 | 20 | 21 | 23 | 24 | 25 | 26 | 28 | 29 | 30 | 31 | 32 | 33 | 34 | 35 | 36 | 37 | 38 | 39 | 40 | 41 | 42 | 43 | 44 | 45 | 46 | 47 | 48 | 49 | 50 | 51 | 52 | 53 | _+54=>exact fun h=>h⟩
  ·have d9:a.eval (.tmp 32)=.bool true:=D 9 rfl _ _ rfl rfl
   have d15:a.eval (.tmp 38)=.bool true:=D 15 rfl _ _ rfl rfl
   exact Rgs.val rfl (Reg.wanted_free rfl) (.bool true) (by have c:=Reg.consts a;generalize a.eval=ρ at *;simp[execOp,go_sem,c.1,c.2,d9,d15]) rfl hW
  ·have d16:a.eval (.tmp 39)=.bool true:=D 16 rfl _ _ rfl rfl
   exact Rgs.val rfl (Reg.wanted_free rfl) (.bool true) (by have c:=Reg.consts a;generalize a.eval=ρ at *;simp[execOp,go_sem,c.1,c.2,d16]) rfl hW
  ·have dg:a.eval (.tmp 40)=.bool true:=D 17 rfl _ _ rfl rfl
   have e15:a.eval (.tmp 15)=.pointer (some ⟨g1,0,none⟩):=E 15 rfl
   have hc0:=(hW.cell (p:=⟨g1,0,none⟩) (World.block_lt_of_cell? _ _ m0)).trans m0
   have hc1:=(hW.cell (p:=⟨g1,1,none⟩) (World.block_lt_of_cell? _ _ m1)).trans m1
   have hc2:=(hW.cell (p:=⟨g1,2,none⟩) (World.block_lt_of_cell? _ _ m2)).trans m2
   exact Rgs.val rfl (Reg.wanted_if rfl rfl dg rfl) (.agg #[.slice x.A1 x.n1 x.c1,.slice x.A2 x.n2 x.c2,.slice x.A3 x.n3 x.c3]) (by have c:=Reg.consts a;generalize a.eval=ρ at *;simp[execOp,go_sem,c.1,c.2,e15,hc0,hc1,hc2]) rfl hW
  ·have dg:a.eval (.tmp 40)=.bool true:=D 17 rfl _ _ rfl rfl
   have e1:a.eval (.tmp 1)=.int .i64 a1:=E 1 rfl
   exact Rgs.val rfl (Reg.wanted_if rfl rfl dg rfl) (.int .i64 a1) (by have c:=Reg.consts a;generalize a.eval=ρ at *;simp[execOp,go_sem,c.1,c.2,e1]) rfl hW
  ·have dg:a.eval (.tmp 40)=.bool true:=D 17 rfl _ _ rfl rfl
   have e3:a.eval (.tmp 3)=.int .i64 a3:=E 3 rfl
   exact Rgs.val rfl (Reg.wanted_if rfl rfl dg rfl) (.int .i64 a3) (by have c:=Reg.consts a;generalize a.eval=ρ at *;simp[execOp,go_sem,c.1,c.2,e3]) rfl hW
  ·have dg:a.eval (.tmp 40)=.bool true:=D 17 rfl _ _ rfl rfl
   have d20:a.eval (.tmp 43)=.int .i64 a3:=D 20 rfl _ _ rfl rfl
   exact Rgs.val rfl (Reg.wanted_if rfl rfl dg rfl) (.int .i64 (bits .and .i64 a3 15)) (by have c:=Reg.consts a;generalize a.eval=ρ at *;simp[execOp,go_sem,c.1,c.2,d20]) rfl hW
  ·have dg:a.eval (.tmp 40)=.bool true:=D 17 rfl _ _ rfl rfl
   have d18:a.eval (.tmp 41)=.agg #[.slice x.A1 x.n1 x.c1,.slice x.A2 x.n2 x.c2,.slice x.A3 x.n3 x.c3]:=D 18 rfl _ _ rfl rfl
   have d19:a.eval (.tmp 42)=.int .i64 a1:=D 19 rfl _ _ rfl rfl
   have d21:a.eval (.tmp 44)=.int .i64 (bits .and .i64 a3 15):=D 21 rfl _ _ rfl rfl
   have dg:a.eval (.tmp 40)=.bool true:=D 17 rfl _ _ rfl rfl
   have d18:a.eval (.tmp 41)=.agg #[.slice x.A1 x.n1 x.c1,.slice x.A2 x.n2 x.c2,.slice x.A3 x.n3 x.c3]:=D 18 rfl _ _ rfl rfl
   have d19:a.eval (.tmp 42)=.int .i64 a1:=D 19 rfl _ _ rfl rfl
   have d21:a.eval (.tmp 44)=.int .i64 (bits .and .i64 a3 15):=D 21 rfl _ _ rfl rfl
   refine Rgs.call rfl (Reg.wanted_if rfl rfl dg rfl) 10 #[.agg #[.slice x.A1 x.n1 x.c1,.slice x.A2 x.n2 x.c2,.slice x.A3 x.n3 x.c3],.int .i64 a1,.int .i64 (bits .and .i64 a3 15)] (by have c:=Reg.consts a;generalize a.eval=ρ at *;simp[execOp,go_sem,c.1,c.2,d18,d19,d21]) ?_
   refine(HOX.out w1 hW _ _ (In64.and a3 15 (by omega))).mono ?_
   rintro e w5 ⟨z2,rfl,hzR2,hzS2,hb5⟩
   exact⟨_,rfl,⟨z2,rfl,hzR2,hzS2⟩,hW.trans (hb5.mono hW.size),fun jq vq _ hq=>by
     revert hq
     match jq with
     | 6=>exact fun h=>h.on hb5
     | 14=>exact fun h=>h.on hb5
     | 22=>exact fun h=>h.on hb5
     | 27=>exact fun h=>h.on hb5
     | 0 | 1 | 2 | 3 | 4 | 5 | 7 | 8 | 9 | 10 | 11 | 12 | 13 | 15 | 16 | 17 | 18 | 19 | 20 | 21 | 23 | 24 | 25 | 26 | 28 | 29 | 30 | 31 | 32 | 33 | 34 | 35 | 36 | 37 | 38 | 39 | 40 | 41 | 42 | 43 | 44 | 45 | 46 | 47 | 48 | 49 | 50 | 51 | 52 | 53 | _+54=>exact fun h=>h⟩
  ·have dg:a.eval (.tmp 40)=.bool true:=D 17 rfl _ _ rfl rfl
   have e2:a.eval (.tmp 2)=.int .i64 a2:=E 2 rfl
   exact Rgs.val rfl (Reg.wanted_if rfl rfl dg rfl) (.int .i64 a2) (by have c:=Reg.consts a;generalize a.eval=ρ at *;simp[execOp,go_sem,c.1,c.2,e2]) rfl hW
  ·have dg:a.eval (.tmp 40)=.bool true:=D 17 rfl _ _ rfl rfl
   have d23:a.eval (.tmp 46)=.int .i64 a2:=D 23 rfl _ _ rfl rfl
   exact Rgs.val rfl (Reg.wanted_if rfl rfl dg rfl) (.int .i64 (a2.tmod 10)) (by have c:=Reg.consts a;generalize a.eval=ρ at *;simp[execOp,go_sem,c.1,c.2,d23]) rfl hW
  ·have dg:a.eval (.tmp 40)=.bool true:=D 17 rfl _ _ rfl rfl
   have e4:a.eval (.tmp 4)=.int .i64 a4:=E 4 rfl
   exact Rgs.val rfl (Reg.wanted_if rfl rfl dg rfl) (.int .i64 a4) (by have c:=Reg.consts a;generalize a.eval=ρ at *;simp[execOp,go_sem,c.1,c.2,e4]) rfl hW
  ·have dg:a.eval (.tmp 40)=.bool true:=D 17 rfl _ _ rfl rfl
   have d25:a.eval (.tmp 48)=.int .i64 a4:=D 25 rfl _ _ rfl rfl
   exact Rgs.val rfl (Reg.wanted_if rfl rfl dg rfl) (.int .i64 (bits .and .i64 a4 255)) (by have c:=Reg.consts a;generalize a.eval=ρ at *;simp[execOp,go_sem,c.1,c.2,d25]) rfl hW
  ·have dg:a.eval (.tmp 40)=.bool true:=D 17 rfl _ _ rfl rfl
   have d24:a.eval (.tmp 47)=.int .i64 (a2.tmod 10):=D 24 rfl _ _ rfl rfl
   have d26:a.eval (.tmp 49)=.int .i64 (bits .and .i64 a4 255):=D 26 rfl _ _ rfl rfl
   have dg:a.eval (.tmp 40)=.bool true:=D 17 rfl _ _ rfl rfl
   obtain⟨z,d22,hzR,hzS⟩:=D 22 rfl _ _ rfl rfl
   have d22:a.eval (.tmp 45)=.agg #[.slice z.A1 z.n1 z.c1,.slice z.A2 z.n2 z.c2,.slice z.A3 z.n3 z.c3]:=d22
   have d24:a.eval (.tmp 47)=.int .i64 (a2.tmod 10):=D 24 rfl _ _ rfl rfl
   have d26:a.eval (.tmp 49)=.int .i64 (bits .and .i64 a4 255):=D 26 rfl _ _ rfl rfl
   refine Rgs.call rfl (Reg.wanted_if rfl rfl dg rfl) 10 #[.agg #[.slice z.A1 z.n1 z.c1,.slice z.A2 z.n2 z.c2,.slice z.A3 z.n3 z.c3],.int .i64 (a2.tmod 10),.int .i64 (bits .and .i64 a4 255)] (by have c:=Reg.consts a;generalize a.eval=ρ at *;simp[execOp,go_sem,c.1,c.2,d22,d24,d26]) ?_
   refine(HOZ.out w1 z _ _ hzR hzS (In64.and a4 255 (by omega))).mono ?_
   rintro e w5 ⟨z2,rfl,hzR2,hzS2,hb5⟩
   exact⟨_,rfl,⟨z2,rfl,hzR2,hzS2⟩,hW.trans (hb5.mono hW.size),fun jq vq _ hq=>by
     revert hq
     match jq with
     | 6=>exact fun h=>h.on hb5
     | 14=>exact fun h=>h.on hb5
     | 22=>exact fun h=>h.on hb5
     | 27=>exact fun h=>h.on hb5
     | 0 | 1 | 2 | 3 | 4 | 5 | 7 | 8 | 9 | 10 | 11 | 12 | 13 | 15 | 16 | 17 | 18 | 19 | 20 | 21 | 23 | 24 | 25 | 26 | 28 | 29 | 30 | 31 | 32 | 33 | 34 | 35 | 36 | 37 | 38 | 39 | 40 | 41 | 42 | 43 | 44 | 45 | 46 | 47 | 48 | 49 | 50 | 51 | 52 | 53 | _+54=>exact fun h=>h⟩
  ·have dg:a.eval (.tmp 40)=.bool true:=D 17 rfl _ _ rfl rfl
   have dg:a.eval (.tmp 40)=.bool true:=D 17 rfl _ _ rfl rfl
   obtain⟨z,d27,hzR,hzS⟩:=D 27 rfl _ _ rfl rfl
   have d27:a.eval (.tmp 50)=.agg #[.slice z.A1 z.n1 z.c1,.slice z.A2 z.n2 z.c2,.slice z.A3 z.n3 z.c3]:=d27
   refine Rgs.call rfl (Reg.wanted_if rfl rfl dg rfl) 8 #[.agg #[.slice z.A1 z.n1 z.c1,.slice z.A2 z.n2 z.c2,.slice z.A3 z.n3 z.c3]] (by have c:=Reg.consts a;generalize a.eval=ρ at *;simp[execOp,go_sem,c.1,c.2,d27]) ?_
   refine(HSA.out w1 z hzR).mono ?_
   rintro e w5 ⟨rfl,hb5⟩
   exact⟨_,rfl,rfl,hW.trans (hb5.mono hW.size),fun jq vq _ hq=>by
     revert hq
     match jq with
     | 6=>exact fun h=>h.on hb5
     | 14=>exact fun h=>h.on hb5
     | 22=>exact fun h=>h.on hb5
     | 27=>exact fun h=>h.on hb5
     | 0 | 1 | 2 | 3 | 4 | 5 | 7 | 8 | 9 | 10 | 11 | 12 | 13 | 15 | 16 | 17 | 18 | 19 | 20 | 21 | 23 | 24 | 25 | 26 | 28 | 29 | 30 | 31 | 32 | 33 | 34 | 35 | 36 | 37 | 38 | 39 | 40 | 41 | 42 | 43 | 44 | 45 | 46 | 47 | 48 | 49 | 50 | 51 | 52 | 53 | _+54=>exact fun h=>h⟩
  ·have d17:a.eval (.tmp 40)=.bool true:=D 17 rfl _ _ rfl rfl
   have d28:a.eval (.tmp 51)=.bool true:=D 28 rfl _ _ rfl rfl
   exact Rgs.val rfl (Reg.wanted_free rfl) (.bool true) (by have c:=Reg.consts a;generalize a.eval=ρ at *;simp[execOp,go_sem,c.1,c.2,d17,d28]) rfl hW
  ·have d29:a.eval (.tmp 52)=.bool true:=D 29 rfl _ _ rfl rfl
   exact Rgs.val rfl (Reg.wanted_free rfl) (.bool true) (by have c:=Reg.consts a;generalize a.eval=ρ at *;simp[execOp,go_sem,c.1,c.2,d29]) rfl hW
  ·have dg:a.eval (.tmp 53)=.bool true:=D 30 rfl _ _ rfl rfl
   have e16:a.eval (.tmp 16)=.pointer (some ⟨g2,0,none⟩):=E 16 rfl
   have hc0:=(hW.cell (p:=⟨g2,0,none⟩) (World.block_lt_of_cell? _ _ n0)).trans n0
   have hc1:=(hW.cell (p:=⟨g2,1,none⟩) (World.block_lt_of_cell? _ _ n1)).trans n1
   have hc2:=(hW.cell (p:=⟨g2,2,none⟩) (World.block_lt_of_cell? _ _ n2)).trans n2
   exact Rgs.val rfl (Reg.wanted_if rfl rfl dg rfl) (.agg #[.slice y.A1 y.n1 y.c1,.slice y.A2 y.n2 y.c2,.slice y.A3 y.n3 y.c3]) (by have c:=Reg.consts a;generalize a.eval=ρ at *;simp[execOp,go_sem,c.1,c.2,e16,hc0,hc1,hc2]) rfl hW
  ·have dg:a.eval (.tmp 53)=.bool true:=D 30 rfl _ _ rfl rfl
   have d31:a.eval (.tmp 54)=.agg #[.slice y.A1 y.n1 y.c1,.slice y.A2 y.n2 y.c2,.slice y.A3 y.n3 y.c3]:=D 31 rfl _ _ rfl rfl
   have dg:a.eval (.tmp 53)=.bool true:=D 30 rfl _ _ rfl rfl
   have d31:a.eval (.tmp 54)=.agg #[.slice y.A1 y.n1 y.c1,.slice y.A2 y.n2 y.c2,.slice y.A3 y.n3 y.c3]:=D 31 rfl _ _ rfl rfl
   refine Rgs.call rfl (Reg.wanted_if rfl rfl dg rfl) 8 #[.agg #[.slice y.A1 y.n1 y.c1,.slice y.A2 y.n2 y.c2,.slice y.A3 y.n3 y.c3]] (by have c:=Reg.consts a;generalize a.eval=ρ at *;simp[execOp,go_sem,c.1,c.2,d31]) ?_
   refine(HSY.out w1 hW).mono ?_
   rintro e w5 ⟨rfl,hb5⟩
   exact⟨_,rfl,rfl,hW.trans (hb5.mono hW.size),fun jq vq _ hq=>by
     revert hq
     match jq with
     | 6=>exact fun h=>h.on hb5
     | 14=>exact fun h=>h.on hb5
     | 22=>exact fun h=>h.on hb5
     | 27=>exact fun h=>h.on hb5
     | 0 | 1 | 2 | 3 | 4 | 5 | 7 | 8 | 9 | 10 | 11 | 12 | 13 | 15 | 16 | 17 | 18 | 19 | 20 | 21 | 23 | 24 | 25 | 26 | 28 | 29 | 30 | 31 | 32 | 33 | 34 | 35 | 36 | 37 | 38 | 39 | 40 | 41 | 42 | 43 | 44 | 45 | 46 | 47 | 48 | 49 | 50 | 51 | 52 | 53 | _+54=>exact fun h=>h⟩
  ·have d30:a.eval (.tmp 53)=.bool true:=D 30 rfl _ _ rfl rfl
   have d32:a.eval (.tmp 55)=.bool true:=D 32 rfl _ _ rfl rfl
   exact Rgs.val rfl (Reg.wanted_free rfl) (.bool true) (by have c:=Reg.consts a;generalize a.eval=ρ at *;simp[execOp,go_sem,c.1,c.2,d30,d32]) rfl hW
  ·have d33:a.eval (.tmp 56)=.bool true:=D 33 rfl _ _ rfl rfl
   exact Rgs.val rfl (Reg.wanted_free rfl) (.bool true) (by have c:=Reg.consts a;generalize a.eval=ρ at *;simp[execOp,go_sem,c.1,c.2,d33]) rfl hW
  ·have dg:a.eval (.tmp 57)=.bool true:=D 34 rfl _ _ rfl rfl
   have e6:a.eval (.tmp 6)=.string s:=E 6 rfl
   exact Rgs.val rfl (Reg.wanted_if rfl rfl dg rfl) (.string s) (by have c:=Reg.consts a;generalize a.eval=ρ at *;simp[execOp,go_sem,c.1,c.2,e6]) rfl hW
  ·have dg:a.eval (.tmp 57)=.bool true:=D 34 rfl _ _ rfl rfl
   have d35:a.eval (.tmp 58)=.string s:=D 35 rfl _ _ rfl rfl
   have dg:a.eval (.tmp 57)=.bool true:=D 34 rfl _ _ rfl rfl
   have d35:a.eval (.tmp 58)=.string s:=D 35 rfl _ _ rfl rfl
   refine Rgs.call rfl (Reg.wanted_if rfl rfl dg rfl) 11 #[.string s] (by have c:=Reg.consts a;generalize a.eval=ρ at *;simp[execOp,go_sem,c.1,c.2,d35]) ?_
   refine(HN1.out w1).mono ?_
   rintro e w5 ⟨rfl,hb5⟩
   exact⟨_,rfl,rfl,hW.trans (hb5.mono hW.size),fun jq vq _ hq=>by
     revert hq
     match jq with
     | 6=>exact fun h=>h.on hb5
     | 14=>exact fun h=>h.on hb5
     | 22=>exact fun h=>h.on hb5
     | 27=>exact fun h=>h.on hb5
     | 0 | 1 | 2 | 3 | 4 | 5 | 7 | 8 | 9 | 10 | 11 | 12 | 13 | 15 | 16 | 17 | 18 | 19 | 20 | 21 | 23 | 24 | 25 | 26 | 28 | 29 | 30 | 31 | 32 | 33 | 34 | 35 | 36 | 37 | 38 | 39 | 40 | 41 | 42 | 43 | 44 | 45 | 46 | 47 | 48 | 49 | 50 | 51 | 52 | 53 | _+54=>exact fun h=>h⟩
  ·have dg:a.eval (.tmp 57)=.bool true:=D 34 rfl _ _ rfl rfl
   have e6:a.eval (.tmp 6)=.string s:=E 6 rfl
   exact Rgs.val rfl (Reg.wanted_if rfl rfl dg rfl) (.string s) (by have c:=Reg.consts a;generalize a.eval=ρ at *;simp[execOp,go_sem,c.1,c.2,e6]) rfl hW
  ·have dg:a.eval (.tmp 57)=.bool true:=D 34 rfl _ _ rfl rfl
   have d37:a.eval (.tmp 60)=.string s:=D 37 rfl _ _ rfl rfl
   have dg:a.eval (.tmp 57)=.bool true:=D 34 rfl _ _ rfl rfl
   have d37:a.eval (.tmp 60)=.string s:=D 37 rfl _ _ rfl rfl
   refine Rgs.call rfl (Reg.wanted_if rfl rfl dg rfl) 12 #[.string s] (by have c:=Reg.consts a;generalize a.eval=ρ at *;simp[execOp,go_sem,c.1,c.2,d37]) ?_
   refine(HN2.out w1).mono ?_
   rintro e w5 ⟨rfl,hb5⟩
   exact⟨_,rfl,rfl,hW.trans (hb5.mono hW.size),fun jq vq _ hq=>by
     revert hq
     match jq with
     | 6=>exact fun h=>h.on hb5
     | 14=>exact fun h=>h.on hb5
     | 22=>exact fun h=>h.on hb5
     | 27=>exact fun h=>h.on hb5
     | 0 | 1 | 2 | 3 | 4 | 5 | 7 | 8 | 9 | 10 | 11 | 12 | 13 | 15 | 16 | 17 | 18 | 19 | 20 | 21 | 23 | 24 | 25 | 26 | 28 | 29 | 30 | 31 | 32 | 33 | 34 | 35 | 36 | 37 | 38 | 39 | 40 | 41 | 42 | 43 | 44 | 45 | 46 | 47 | 48 | 49 | 50 | 51 | 52 | 53 | _+54=>exact fun h=>h⟩
  ·have dg:a.eval (.tmp 57)=.bool true:=D 34 rfl _ _ rfl rfl
   have d36:a.eval (.tmp 59)=.bool nb:=D 36 rfl _ _ rfl rfl
   have d38:a.eval (.tmp 61)=.bool nb:=D 38 rfl _ _ rfl rfl
   exact Rgs.val rfl (Reg.wanted_if rfl rfl dg rfl) (.bool true) (by have c:=Reg.consts a;generalize a.eval=ρ at *;simp[execOp,go_sem,c.1,c.2,d36,d38]) rfl hW
  ·have d34:a.eval (.tmp 57)=.bool true:=D 34 rfl _ _ rfl rfl
   have d39:a.eval (.tmp 62)=.bool true:=D 39 rfl _ _ rfl rfl
   exact Rgs.val rfl (Reg.wanted_free rfl) (.bool true) (by have c:=Reg.consts a;generalize a.eval=ρ at *;simp[execOp,go_sem,c.1,c.2,d34,d39]) rfl hW
  ·have d40:a.eval (.tmp 63)=.bool true:=D 40 rfl _ _ rfl rfl
   exact Rgs.val rfl (Reg.wanted_free rfl) (.bool true) (by have c:=Reg.consts a;generalize a.eval=ρ at *;simp[execOp,go_sem,c.1,c.2,d40]) rfl hW
  ·have dg:a.eval (.tmp 64)=.bool true:=D 41 rfl _ _ rfl rfl
   have e15:a.eval (.tmp 15)=.pointer (some ⟨g1,0,none⟩):=E 15 rfl
   have hc0:=(hW.cell (p:=⟨g1,0,none⟩) (World.block_lt_of_cell? _ _ m0)).trans m0
   have hc1:=(hW.cell (p:=⟨g1,1,none⟩) (World.block_lt_of_cell? _ _ m1)).trans m1
   have hc2:=(hW.cell (p:=⟨g1,2,none⟩) (World.block_lt_of_cell? _ _ m2)).trans m2
   exact Rgs.val rfl (Reg.wanted_if rfl rfl dg rfl) (.agg #[.slice x.A1 x.n1 x.c1,.slice x.A2 x.n2 x.c2,.slice x.A3 x.n3 x.c3]) (by have c:=Reg.consts a;generalize a.eval=ρ at *;simp[execOp,go_sem,c.1,c.2,e15,hc0,hc1,hc2]) rfl hW
  ·have dg:a.eval (.tmp 64)=.bool true:=D 41 rfl _ _ rfl rfl
   have e16:a.eval (.tmp 16)=.pointer (some ⟨g2,0,none⟩):=E 16 rfl
   have hc0:=(hW.cell (p:=⟨g2,0,none⟩) (World.block_lt_of_cell? _ _ n0)).trans n0
   have hc1:=(hW.cell (p:=⟨g2,1,none⟩) (World.block_lt_of_cell? _ _ n1)).trans n1
   have hc2:=(hW.cell (p:=⟨g2,2,none⟩) (World.block_lt_of_cell? _ _ n2)).trans n2
   exact Rgs.val rfl (Reg.wanted_if rfl rfl dg rfl) (.agg #[.slice y.A1 y.n1 y.c1,.slice y.A2 y.n2 y.c2,.slice y.A3 y.n3 y.c3]) (by have c:=Reg.consts a;generalize a.eval=ρ at *;simp[execOp,go_sem,c.1,c.2,e16,hc0,hc1,hc2]) rfl hW
  ·have dg:a.eval (.tmp 64)=.bool true:=D 41 rfl _ _ rfl rfl
   have d42:a.eval (.tmp 65)=.agg #[.slice x.A1 x.n1 x.c1,.slice x.A2 x.n2 x.c2,.slice x.A3 x.n3 x.c3]:=D 42 rfl _ _ rfl rfl
   have d43:a.eval (.tmp 66)=.agg #[.slice y.A1 y.n1 y.c1,.slice y.A2 y.n2 y.c2,.slice y.A3 y.n3 y.c3]:=D 43 rfl _ _ rfl rfl
   have dg:a.eval (.tmp 64)=.bool true:=D 41 rfl _ _ rfl rfl
   have d42:a.eval (.tmp 65)=.agg #[.slice x.A1 x.n1 x.c1,.slice x.A2 x.n2 x.c2,.slice x.A3 x.n3 x.c3]:=D 42 rfl _ _ rfl rfl
   have d43:a.eval (.tmp 66)=.agg #[.slice y.A1 y.n1 y.c1,.slice y.A2 y.n2 y.c2,.slice y.A3 y.n3 y.c3]:=D 43 rfl _ _ rfl rfl
   refine Rgs.call rfl (Reg.wanted_if rfl rfl dg rfl) 15 #[.agg #[.slice x.A1 x.n1 x.c1,.slice x.A2 x.n2 x.c2,.slice x.A3 x.n3 x.c3],.agg #[.slice y.A1 y.n1 y.c1,.slice y.A2 y.n2 y.c2,.slice y.A3 y.n3 y.c3]] (by have c:=Reg.consts a;generalize a.eval=ρ at *;simp[execOp,go_sem,c.1,c.2,d42,d43]) ?_
   refine(HE1.out w1 hW).mono ?_
   rintro e w5 ⟨rfl,hb5⟩
   exact⟨_,rfl,rfl,hW.trans (hb5.mono hW.size),fun jq vq _ hq=>by
     revert hq
     match jq with
     | 6=>exact fun h=>h.on hb5
     | 14=>exact fun h=>h.on hb5
     | 22=>exact fun h=>h.on hb5
     | 27=>exact fun h=>h.on hb5
     | 0 | 1 | 2 | 3 | 4 | 5 | 7 | 8 | 9 | 10 | 11 | 12 | 13 | 15 | 16 | 17 | 18 | 19 | 20 | 21 | 23 | 24 | 25 | 26 | 28 | 29 | 30 | 31 | 32 | 33 | 34 | 35 | 36 | 37 | 38 | 39 | 40 | 41 | 42 | 43 | 44 | 45 | 46 | 47 | 48 | 49 | 50 | 51 | 52 | 53 | _+54=>exact fun h=>h⟩
  ·have dg:a.eval (.tmp 64)=.bool true:=D 41 rfl _ _ rfl rfl
   have e15:a.eval (.tmp 15)=.pointer (some ⟨g1,0,none⟩):=E 15 rfl
   have hc0:=(hW.cell (p:=⟨g1,0,none⟩) (World.block_lt_of_cell? _ _ m0)).trans m0
   have hc1:=(hW.cell (p:=⟨g1,1,none⟩) (World.block_lt_of_cell? _ _ m1)).trans m1
   have hc2:=(hW.cell (p:=⟨g1,2,none⟩) (World.block_lt_of_cell? _ _ m2)).trans m2
   exact Rgs.val rfl (Reg.wanted_if rfl rfl dg rfl) (.agg #[.slice x.A1 x.n1 x.c1,.slice x.A2 x.n2 x.c2,.slice x.A3 x.n3 x.c3]) (by have c:=Reg.consts a;generalize a.eval=ρ at *;simp[execOp,go_sem,c.1,c.2,e15,hc0,hc1,hc2]) rfl hW
  ·have dg:a.eval (.tmp 64)=.bool true:=D 41 rfl _ _ rfl rfl
   have e16:a.eval (.tmp 16)=.pointer (some ⟨g2,0,none⟩):=E 16 rfl
   have hc0:=(hW.cell (p:=⟨g2,0,none⟩) (World.block_lt_of_cell? _ _ n0)).trans n0
   have hc1:=(hW.cell (p:=⟨g2,1,none⟩) (World.block_lt_of_cell? _ _ n1)).trans n1
   have hc2:=(hW.cell (p:=⟨g2,2,none⟩) (World.block_lt_of_cell? _ _ n2)).trans n2
   exact Rgs.val rfl (Reg.wanted_if rfl rfl dg rfl) (.agg #[.slice y.A1 y.n1 y.c1,.slice y.A2 y.n2 y.c2,.slice y.A3 y.n3 y.c3]) (by have c:=Reg.consts a;generalize a.eval=ρ at *;simp[execOp,go_sem,c.1,c.2,e16,hc0,hc1,hc2]) rfl hW
  ·have dg:a.eval (.tmp 64)=.bool true:=D 41 rfl _ _ rfl rfl
   have d45:a.eval (.tmp 68)=.agg #[.slice x.A1 x.n1 x.c1,.slice x.A2 x.n2 x.c2,.slice x.A3 x.n3 x.c3]:=D 45 rfl _ _ rfl rfl
   have d46:a.eval (.tmp 69)=.agg #[.slice y.A1 y.n1 y.c1,.slice y.A2 y.n2 y.c2,.slice y.A3 y.n3 y.c3]:=D 46 rfl _ _ rfl rfl
   have dg:a.eval (.tmp 64)=.bool true:=D 41 rfl _ _ rfl rfl
   have d45:a.eval (.tmp 68)=.agg #[.slice x.A1 x.n1 x.c1,.slice x.A2 x.n2 x.c2,.slice x.A3 x.n3 x.c3]:=D 45 rfl _ _ rfl rfl
   have d46:a.eval (.tmp 69)=.agg #[.slice y.A1 y.n1 y.c1,.slice y.A2 y.n2 y.c2,.slice y.A3 y.n3 y.c3]:=D 46 rfl _ _ rfl rfl
   refine Rgs.call rfl (Reg.wanted_if rfl rfl dg rfl) 16 #[.agg #[.slice x.A1 x.n1 x.c1,.slice x.A2 x.n2 x.c2,.slice x.A3 x.n3 x.c3],.agg #[.slice y.A1 y.n1 y.c1,.slice y.A2 y.n2 y.c2,.slice y.A3 y.n3 y.c3]] (by have c:=Reg.consts a;generalize a.eval=ρ at *;simp[execOp,go_sem,c.1,c.2,d45,d46]) ?_
   refine(HE2.out w1 hW).mono ?_
   rintro e w5 ⟨rfl,hb5⟩
   exact⟨_,rfl,rfl,hW.trans (hb5.mono hW.size),fun jq vq _ hq=>by
     revert hq
     match jq with
     | 6=>exact fun h=>h.on hb5
     | 14=>exact fun h=>h.on hb5
     | 22=>exact fun h=>h.on hb5
     | 27=>exact fun h=>h.on hb5
     | 0 | 1 | 2 | 3 | 4 | 5 | 7 | 8 | 9 | 10 | 11 | 12 | 13 | 15 | 16 | 17 | 18 | 19 | 20 | 21 | 23 | 24 | 25 | 26 | 28 | 29 | 30 | 31 | 32 | 33 | 34 | 35 | 36 | 37 | 38 | 39 | 40 | 41 | 42 | 43 | 44 | 45 | 46 | 47 | 48 | 49 | 50 | 51 | 52 | 53 | _+54=>exact fun h=>h⟩
  ·have dg:a.eval (.tmp 64)=.bool true:=D 41 rfl _ _ rfl rfl
   have d44:a.eval (.tmp 67)=.bool sb:=D 44 rfl _ _ rfl rfl
   have d47:a.eval (.tmp 70)=.bool sb:=D 47 rfl _ _ rfl rfl
   exact Rgs.val rfl (Reg.wanted_if rfl rfl dg rfl) (.bool true) (by have c:=Reg.consts a;generalize a.eval=ρ at *;simp[execOp,go_sem,c.1,c.2,d44,d47]) rfl hW
  ·have d41:a.eval (.tmp 64)=.bool true:=D 41 rfl _ _ rfl rfl
   have d48:a.eval (.tmp 71)=.bool true:=D 48 rfl _ _ rfl rfl
   exact Rgs.val rfl (Reg.wanted_free rfl) (.bool true) (by have c:=Reg.consts a;generalize a.eval=ρ at *;simp[execOp,go_sem,c.1,c.2,d41,d48]) rfl hW
  ·have d49:a.eval (.tmp 72)=.bool true:=D 49 rfl _ _ rfl rfl
   exact Rgs.val rfl (Reg.wanted_free rfl) (.bool true) (by have c:=Reg.consts a;generalize a.eval=ρ at *;simp[execOp,go_sem,c.1,c.2,d49]) rfl hW
  ·have dg:a.eval (.tmp 73)=.bool true:=D 50 rfl _ _ rfl rfl
   have dg:a.eval (.tmp 73)=.bool true:=D 50 rfl _ _ rfl rfl
   refine Rgs.call rfl (Reg.wanted_if rfl rfl dg rfl) 13 #[] (by have c:=Reg.consts a;generalize a.eval=ρ at *;simp[execOp,go_sem,c.1,c.2,go_sem]) ?_
   refine(HKN.out w1).mono ?_
   rintro e w5 ⟨rfl,hb5⟩
   exact⟨_,rfl,rfl,hW.trans (hb5.mono hW.size),fun jq vq _ hq=>by
     revert hq
     match jq with
     | 6=>exact fun h=>h.on hb5
     | 14=>exact fun h=>h.on hb5
     | 22=>exact fun h=>h.on hb5
     | 27=>exact fun h=>h.on hb5
     | 0 | 1 | 2 | 3 | 4 | 5 | 7 | 8 | 9 | 10 | 11 | 12 | 13 | 15 | 16 | 17 | 18 | 19 | 20 | 21 | 23 | 24 | 25 | 26 | 28 | 29 | 30 | 31 | 32 | 33 | 34 | 35 | 36 | 37 | 38 | 39 | 40 | 41 | 42 | 43 | 44 | 45 | 46 | 47 | 48 | 49 | 50 | 51 | 52 | 53 | _+54=>exact fun h=>h⟩
  ·have d50:a.eval (.tmp 73)=.bool true:=D 50 rfl _ _ rfl rfl
   have d51:a.eval (.tmp 74)=.bool true:=D 51 rfl _ _ rfl rfl
   exact Rgs.val rfl (Reg.wanted_free rfl) (.bool true) (by have c:=Reg.consts a;generalize a.eval=ρ at *;simp[execOp,go_sem,c.1,c.2,d50,d51]) rfl hW
  ·have d52:a.eval (.tmp 75)=.bool true:=D 52 rfl _ _ rfl rfl
   exact Rgs.val rfl (Reg.wanted_free rfl) (.bool true) (by have c:=Reg.consts a;generalize a.eval=ρ at *;simp[execOp,go_sem,c.1,c.2,d52]) rfl hW
 ·intro a w9 live hs hd E Dv Hl hW
  have e14:a.eval (.tmp 14)=.bool true:=by
   obtain⟨v,hv,he⟩:=Dv 53 _ rfl
   exact(he 14 rfl).trans hv
  rw[Reg.act_lit a 76 hs,hd]
  simp only[List.range,List.range.loop,List.map,e14]
  have HB9:=hid (HFF.out.trans (hW.mono HFF.out.size))
  clear E Dv Hl hW e14 m0 m1 m2 n0 n1 n2
  generalize a.eval=ρ
  clear a hs hd
  go_wp2_with fail
  go_ret
  exact Ans.mk rfl HB9.out
end Go.Proofs.YtgoeikihjffeoaaGreat
