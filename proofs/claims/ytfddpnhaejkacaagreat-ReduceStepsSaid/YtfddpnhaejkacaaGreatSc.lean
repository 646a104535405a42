import Derived.Test.YtfddpnhaejkacaaGreatSb
import Derived.Test.YtfddpnhaejkacaaGreatWprg
import Derived.Test.YtfddpnhaejkacaaGreatLow14
set_option linter.unusedSimpArgs false
set_option linter.unusedVariables false
namespace Go.Proofs.YtfddpnhaejkacaaGreat
open Go.RowKit Tab
open Lib (hid)
set_option maxRecDepth 100000 in
set_option maxHeartbeats 8000000 in
theorem mdraw_any (A1 A2 A3 A:Option Addr) (n1 n2 n3 n c1 c2 c3 c:Nat) (P:List PtV) (C:List ChV) (L:List Rn) (w:World) (hCf:CfW w w.heap.size A1 A2 n1 n2 P C) (hL:RdR w w.heap.size A n L)
  (q1:n1≤1024) (q2:n2≤1048576) (hc:n≤c) (hn:n≤1024) (ht:ticks L≤8192) (hz:∀ x∈P,In64 x.per) :
  Calls Tryz.prog 54 #[.agg #[.slice A1 n1 c1,.slice A2 n2 c2,.slice A3 n3 c3],.slice A n c] w (RowTb (drwR P C L) (drwB P C L) w):=by
 have hb0:=bl1 w (.cells #[.slice A1 n1 c1,.slice A2 n2 c2,.slice A3 n3 c3] 97)
 have hbox:=box_vec w (.slice A1 n1 c1) (.slice A2 n2 c2) (.slice A3 n3 c3) 97
 have HFI:=hid (first_any A1 A2 A3 A n1 n2 n3 n c1 c2 c3 c P C L _ (hCf.on hb0) (hL.on hb0) q1 q2 hc hn ht hz)
 have HR:=hid (hL.on hb0)
 have HB0:=hid hb0
 have HLN:=hid hL.len
 have HS:=hid (fun m (h:fstF P C L=some m)=>fstF_some h)
 have HN:=hid (fun(h:fstF P C L=none)=>fstF_none h)
 have HT:=hid ht
 generalize drwR P C L=RR at HS HN ⊢
 generalize drwB P C L=RB at HS HN ⊢
 generalize fstF P C L=o at HFI HS HN
 clear hCf hL hb0 hz ht
 go_enter Tryz.func54,Tryz.ntmps54
 go_upto_region 1 with fail
 generalize w.alloc (.cells #[.slice A1 n1 c1,.slice A2 n2 c2,.slice A3 n3 c3] 97)=W at hbox HFI HR HB0 ⊢
 obtain⟨gc,hgc⟩:∃ gc,gc=w.heap.size:=⟨_,rfl⟩
 rw[← hgc] at hbox ⊢
 clear hgc
 obtain⟨m0,m1,m2⟩:=hbox.three
 clear hbox
 cases o with
 | none =>
  obtain⟨rfl,rfl⟩:=HN.out rfl
  go_wp2_with fail
  refine HFI.out.mono ?_
  rintro e w5 ⟨rfl,hb5⟩
  have HB5:=hid hb5
  have HR5:=hid (HR.out.on hb5)
  clear hb5 HFI m0 m1 m2 HS HN
  dsimp only[mvZ,Option.isSome]
  go_upto_region 2 with fail
  have HB6:=hid (bl1 w5 (.cells #[.int .i64 0,.int .i64 0,.bool false] 99))
  have HC6:=hid (cpr_any A n c RR _ (HR5.out.on HB6.out) hc (by omega))
  generalize w5.alloc (.cells #[.int .i64 0,.int .i64 0,.bool false] 99)=w6 at HB6 HC6 ⊢
  go_wp2_with fail
  refine HC6.out.mono ?_
  rintro e w7 ⟨A7,c7,rfl,hr7,hc7,hb7⟩
  have HR7:=hid hr7
  have HB7:=hid (HB5.out.trans ((HB6.out.trans (hb7.mono HB6.out.size)).mono HB5.out.size))
  clear hr7 hb7 HC6
  go_wp2_with fail
  go_ret2
  exact⟨A7,c7,by rw[HLN.out];rfl,by rw[HLN.out];exact HR7.out,by rw[HLN.out];exact hc7,HB0.out.trans (HB7.out.mono HB0.out.size)⟩
 | some m =>
  obtain⟨i,j,r⟩:=m
  obtain⟨h1,rfl⟩:=HS.out _ rfl
  dsimp only at h1
  have H1:=hid h1
  clear h1
  go_wp2_with fail
  refine HFI.out.mono ?_
  rintro e w5 ⟨rfl,hb5⟩
  have HB5:=hid hb5
  have HR5:=hid (HR.out.on hb5)
  clear hb5 HFI m0 m1 m2 HS HN
  dsimp only[mvZ,Option.isSome]
  go_upto_region 2 with fail
  have HB6:=hid (bl1 w5 (.cells #[.int .i64 (i:Int),.int .i64 (j:Int),.bool r] 99))
  have g0:(w5.alloc (.cells #[.int .i64 (i:Int),.int .i64 (j:Int),.bool r] 99)).cell? ⟨w5.heap.size,0,none⟩=some (.int .i64 (i:Int)):=World.cell?_alloc_mark _ _ _ _ _
  have g1:(w5.alloc (.cells #[.int .i64 (i:Int),.int .i64 (j:Int),.bool r] 99)).cell? ⟨w5.heap.size,1,none⟩=some (.int .i64 (j:Int)):=World.cell?_alloc_mark _ _ _ _ _
  have g2:(w5.alloc (.cells #[.int .i64 (i:Int),.int .i64 (j:Int),.bool r] 99)).cell? ⟨w5.heap.size,2,none⟩=some (.bool r):=World.cell?_alloc_mark _ _ _ _ _
  have HC6:=hid (do_any A n c L (i:Int) (j:Int) r _ (HR5.out.on HB6.out) hc (by omega) (by have:=HT.out;omega))
  rw[← H1.out] at HC6
  generalize w5.alloc (.cells #[.int .i64 (i:Int),.int .i64 (j:Int),.bool r] 99)=w6 at HB6 HC6 g0 g1 g2 ⊢
  generalize w5.heap.size=gx at g0 g1 g2 ⊢
  go_wp2_with fail
  refine HC6.out.mono ?_
  rintro e w7 ⟨A7,c7,rfl,hr7,hc7,hb7⟩
  have HR7:=hid hr7
  have HB7:=hid hb7
  clear hr7 hb7 HC6 g0 g1 g2
  go_wp2_with fail
  go_ret2
  exact⟨A7,c7,rfl,HR7.out,hc7,HB0.out.trans ((HB5.out.trans ((HB6.out.trans (HB7.out.mono HB6.out.size)).mono HB5.out.size)).mono HB0.out.size)⟩
set_option maxRecDepth 100000 in
set_option maxHeartbeats 2000000 in
theorem pdraw_any (A1 A2 A3 A:Option Addr) (n1 n2 n3 n c1 c2 c3 c:Nat) (P:List PtV) (C:List ChV) (L:List Rn) (w:World) (hCf:CfW w w.heap.size A1 A2 n1 n2 P C) (hL:RdR w w.heap.size A n L)
  (q1:n1≤1024) (q2:n2≤1048576) (hc:n≤c) (hn:n≤1024) (ht:ticks L≤8192) (hz:∀ x∈P,In64 x.per) :
  Calls Tryz.prog 26 #[.agg #[.slice A1 n1 c1,.slice A2 n2 c2,.slice A3 n3 c3],.slice A n c] w (RowTb (drwR P C L) (drwB P C L) w):=by
 have hb0:=bl1 w (.cells #[.slice A1 n1 c1,.slice A2 n2 c2,.slice A3 n3 c3] 31)
 have hbox:=box_vec w (.slice A1 n1 c1) (.slice A2 n2 c2) (.slice A3 n3 c3) 31
 have HC:=hid (mdraw_any A1 A2 A3 A n1 n2 n3 n c1 c2 c3 c P C L _ (hCf.on hb0) (hL.on hb0) q1 q2 hc hn ht hz)
 have HB0:=hid hb0
 generalize drwB P C L=b at HC ⊢
 generalize drwR P C L=X at HC ⊢
 clear hCf hL hz hb0
 go_enter Tryz.func26,Tryz.ntmps26
 go_upto_region 1 with fail
 generalize w.alloc (.cells #[.slice A1 n1 c1,.slice A2 n2 c2,.slice A3 n3 c3] 31)=W at hbox HC HB0 ⊢
 obtain⟨gc,hgc⟩:∃ gc,gc=w.heap.size:=⟨_,rfl⟩
 rw[← hgc] at hbox ⊢
 clear hgc
 obtain⟨m0,m1,m2⟩:=hbox.three
 clear hbox
 go_wp2_with fail
 refine HC.out.mono ?_
 rintro e w5 ⟨A5,c5,rfl,hr5,hc5,hb5⟩
 have HR5:=hid hr5
 have HB5:=hid hb5
 clear hr5 hb5 HC
 go_wp2_with fail
 go_ret2
 exact⟨A5,c5,rfl,HR5.out,hc5,HB0.out.trans (HB5.out.mono HB0.out.size)⟩
theorem fstF_is (P:List PtV) (C:List ChV) (L:List Rn):(fstF P C L).isSome=drwB P C L:=by
 cases h:fstF P C L with
 | none=>exact(fstF_none h).2.symm
 | some m=>exact(fstF_some h).2.symm
set_option maxRecDepth 100000 in
set_option maxHeartbeats 4000000 in
theorem stuck_any (A1 A2 A3 A:Option Addr) (n1 n2 n3 n c1 c2 c3 c:Nat) (P:List PtV) (C:List ChV) (L:List Rn) (w:World) (hCf:CfW w w.heap.size A1 A2 n1 n2 P C) (hL:RdR w w.heap.size A n L)
  (q1:n1≤1024) (q2:n2≤1048576) (hc:n≤c) (hn:n≤1024) (ht:ticks L≤8192) (hz:∀ x∈P,In64 x.per) :
  Calls Tryz.prog 27 #[.agg #[.slice A1 n1 c1,.slice A2 n2 c2,.slice A3 n3 c3],.slice A n c] w (Ans (.bool (!(drwB P C L))) w):=by
 have hb0:=bl1 w (.cells #[.slice A1 n1 c1,.slice A2 n2 c2,.slice A3 n3 c3] 31)
 have hbox:=box_vec w (.slice A1 n1 c1) (.slice A2 n2 c2) (.slice A3 n3 c3) 31
 have HFI:=hid (first_any A1 A2 A3 A n1 n2 n3 n c1 c2 c3 c P C L _ (hCf.on hb0) (hL.on hb0) q1 q2 hc hn ht hz)
 have HB0:=hid hb0
 rw[← fstF_is P C L]
 generalize fstF P C L=o at HFI ⊢
 clear hCf hL hb0 hz ht
 go_enter Tryz.func27,Tryz.ntmps27
 go_upto_region 1 with fail
 generalize w.alloc (.cells #[.slice A1 n1 c1,.slice A2 n2 c2,.slice A3 n3 c3] 31)=W at hbox HFI HB0 ⊢
 obtain⟨gc,hgc⟩:∃ gc,gc=w.heap.size:=⟨_,rfl⟩
 rw[← hgc] at hbox ⊢
 clear hgc
 obtain⟨m0,m1,m2⟩:=hbox.three
 clear hbox
 cases o with
 | none =>
  go_wp2_with fail
  refine HFI.out.mono ?_
  rintro e w5 ⟨rfl,hb5⟩
  have HB5:=hid hb5
  clear hb5 HFI m0 m1 m2
  dsimp only[mvZ,Option.isSome]
  go_upto_region 2 with fail
  have HB6:=hid (HB5.out.trans ((bl1 w5 (.cells #[.int .i64 0,.int .i64 0,.bool false] 99)).mono HB5.out.size))
  generalize w5.alloc (.cells #[.int .i64 0,.int .i64 0,.bool false] 99)=w6 at HB6 ⊢
  go_wp2_with fail
  go_ret
  exact Ans.mk rfl (HB0.out.trans (HB6.out.mono HB0.out.size))
 | some m =>
  obtain⟨i,j,r⟩:=m
  go_wp2_with fail
  refine HFI.out.mono ?_
  rintro e w5 ⟨rfl,hb5⟩
  have HB5:=hid hb5
  clear hb5 HFI m0 m1 m2
  dsimp only[mvZ,Option.isSome]
  go_upto_region 2 with fail
  have HB6:=hid (HB5.out.trans ((bl1 w5 (.cells #[.int .i64 (i:Int),.int .i64 (j:Int),.bool r] 99)).mono HB5.out.size))
  generalize w5.alloc (.cells #[.int .i64 (i:Int),.int .i64 (j:Int),.bool r] 99)=w6 at HB6 ⊢
  go_wp2_with fail
  go_ret
  exact Ans.mk rfl (HB0.out.trans (HB6.out.mono HB0.out.size))
end Go.Proofs.YtfddpnhaejkacaaGreat
