import Derived.Test.YtfmndmhjjbeokaaGreatDoorLow13
import Derived.Test.YtfmndmhjjbeokaaGreatDoorLow12
import Derived.Test.YtfmndmhjjbeokaaGreatDoorLow7
namespace Go.Proofs.YtfmndmhjjbeokaaGreatDoor
open Go.RowKit Tab
set_option linter.unusedSimpArgs false
set_option linter.unusedVariables false
set_option maxRecDepth 100000 in
set_option maxHeartbeats 3200000 in
theorem depth_tree (A:Option Addr) (n cap:Nat) (l:List Nd) (x0:Nd) (k0:F) (w:World) (h:RdN w w.heap.size A n l) (hc:n≤cap) (hn:n≤1048576) (hok:(F.cons x0 k0 .nil).ok) (hl:l=x0::k0.flat) :
  Calls Tryz.prog 70 #[.slice A n cap] w (Ans (.int .i64 (k0.dep+1:Nat)) w):=by
 have hwh:wholeB l=true:=by rw [hl];exact tree_whole hok
 obtain ⟨i1,i2,i3,i4⟩:=InvP.start hok rfl
 have e1:(F.cons x0 k0 .nil).flat=l:=by rw [hl];simp [F.flat]
 have e2:(F.cons x0 k0 .nil).dep=k0.dep+1:=by simp [F.dep]
 have i2:=i2.trans e1
 rw [e2] at i4
 have hD:k0.dep+1≤n:=by
  have:=F.dep_le_sz k0
  have h1:=h.len
  rw [hl] at h1
  simp only [List.length_cons,F.flat_length] at h1
  omega
 generalize k0.dep+1=D at i4 hD ⊢
 generalize (F.cons x0 k0 .nil)=f0 at i1 i2 i4
 have I1:=Lib.hid i1
 have I2:=Lib.hid i2
 have I4:=Lib.hid i4
 have HWH:=Lib.hid hwh
 clear i1 i2 i3 i4 hwh hok hl e1 e2
 go_enter Tryz.func70,Tryz.ntmps70
 go_wp2_with fail
 refine (whole_any A n cap l w h hc (by omega)).mono ?_
 rw [HWH.out]
 rintro e w1 ⟨rfl,hb1⟩
 go_wp2_with fail
 go_loopw [3,4,12] (fun sm q s wr=>∃ (i d:Nat) (st:List (Nat×Nat)) (cur:F) (fs:List F) (A1:Option Addr) (n1 c1:Nat),i≤n∧s=.int .i64 i∧sm=.int .i64 d∧q=.slice A1 n1 c1∧OwnP wr w.heap.size A1 n1 c1 st∧InvP st cur fs ∧
  cur.flat++flats fs=l.drop i∧max d (deepR st cur fs)=D∧Below w.heap.size w wr∧n1≤i) (fun _ _ s _=>n - (intOf s).toNat)
 case atStart=>exact ⟨0,0,[],f0,[],none,0,0,by omega,rfl,rfl,rfl,OwnP.nil _ _,I1.out,I2.out,by rw [I4.out];omega,hb1,by omega⟩
 case round =>
  obtain ⟨i,d,st,cur,fs,A1,n1,c1,hi,rfl,rfl,rfl,hp,hv,hrest,hsum,hb,hn1⟩:=hrel
  have hd:d≤D:=by omega
  have HV:=Lib.hid hv
  have HR:=Lib.hid hrest
  have HS:=Lib.hid hsum
  clear hv hrest hsum
  by_cases hlt:i < n
  ·obtain ⟨ad,x,rfl,_,hx,hin,c0,c1',c2⟩:=(h.on hb).at_ hlt
   have hdr:=drop_cons hx
   have hlow:=InvP.low HV.out HR.out 1048577 (by rw [List.length_drop,h.len];omega)
   have hge:=deep_ge HV.out (HR.out.trans hdr)
   obtain ⟨hf,cur',fs',j1,j2,j3,j4⟩:=Tab.step HV.out (HR.out.trans hdr)
   obtain ⟨hT1,hT2⟩:=InvP.times HV.out
   obtain ⟨xk,xp,xn⟩:=x
   have hz2:xn≤9223372036854775807:=hin.2.2.2
   have hj:max (max d (n1+1)) (deepR (behind st ⟨xk,xp,xn⟩) cur' fs')=D:=by
    have h1:=hp.1
    have h2:=HS.out
    rw [h1]
    omega
   have HF:=Lib.hid hf
   have J1:=Lib.hid j1
   have J2:=Lib.hid j2
   have J4:=Lib.hid hj
   have HLOW:=Lib.hid hlow
   clear hf j1 j2 j3 j4 hdr hx hin hlow hge hj
   have hBs:=hb.size
   have hb2':=bl1 wr (.cells #[.int .i64 xk,.int .i64 xp,.int .i64 xn] 54)
   have hp2:OwnP (wr.alloc (.cells #[.int .i64 xk,.int .i64 xp,.int .i64 xn] 54)) w.heap.size A1 n1 c1 st:=hp.keep fun b _ hlt=>hb2'.block b hlt
   have hbw:=hb.trans (hb2'.mono hb.size)
   go_wp2_with fail
   all_goals
    refine (behind_any w.heap.size A1 n1 c1 st xk xp xn _ hp2 hbw.size (by omega) HF.out hz2 hT1 hT2 (fun e he=>by have:=HLOW.out e he;omega)).mono ?_
    rintro e w3 ⟨A3,n3,c3,rfl,hp3,hb3⟩
    have hn3:n3≤i+1:=by
     have h1:=hp3.1
     have h2:=behind_len st ⟨xk,xp,xn⟩
     have h3:=hp.1
     omega
    go_wp2_with fail
    go_roundw
    case rel=>exact ⟨i+1,max d (n1+1),_,cur',fs',A3,n3,c3,by omega,by go_num,ret_num (by omega),rfl,hp3,J1.out,J2.out.symm,J4.out,hbw.trans hb3,hn3⟩
    case measure=>simp [intOf];omega
  ·have hge:n≤i:=by omega
   obtain ⟨r0,r1⟩:=InvP.done HV.out (by rw [HR.out];exact List.drop_eq_nil_of_le (by rw [h.len];exact hge))
   have e4:=HS.out
   rw [r1] at e4
   have e5:d=D:=by omega
   have E5:=Lib.hid e5
   clear r0 r1 e4 e5
   go_wp2_with fail
   go_ret
   exact Ans.mk (by rw [E5.out];rfl) hb
end Go.Proofs.YtfmndmhjjbeokaaGreatDoor
namespace Go.Proofs.YtfmndmhjjbeokaaGreatDoor
open Go.RowKit Tab
set_option linter.unusedSimpArgs false
set_option linter.unusedVariables false
theorem whole_size {l:List Nd} (h:wholeB l=true):0 < l.length∧size l 0=l.length:=by
 unfold wholeB at h
 simp only [Bool.and_eq_true,decide_eq_true_eq] at h
 exact h
theorem not_whole {l:List Nd} (h:wholeB l=false) (h0:0 < l.length):¬ size l 0=l.length:=fun h1=>by
 unfold wholeB at h
 rw [decide_eq_true h0,decide_eq_true h1] at h
 cases h
set_option maxHeartbeats 400000 in
theorem rDepth_none (A:Option Addr) (n cap:Nat) (l:List Nd) (w:World) (h:RdN w w.heap.size A n l) (hc:n≤cap) (hn:n≤1048576) (hw:wholeB l=false) :
  Calls Tryz.prog 45 #[.slice A n cap] w (Ans (.int .i64 (0:Nat)) w):=by
 by_cases h0:0 < n
 ·have hs:=not_whole hw (by rw [h.len];exact h0)
  rw [h.len] at hs
  generalize hS:size l 0=S at hs
  have HS:=Lib.hid hS
  have hs':((S:Int) == (n:Int))=false:=beq_eq_false_iff_ne.2 (by omega)
  have hn0:((n:Int) == 0)=false:=beq_eq_false_iff_ne.2 (by omega)
  clear hS hs hw
  go_enter Tryz.func45,Tryz.ntmps45
  go_wp2_with fail
  refine (rsize_any A n cap l 0 w h hc (by omega)).mono ?_
  rw [HS.out]
  rintro e w1 ⟨rfl,hb1⟩
  go_wp2_with fail
  all_goals
   go_ret
   exact Ans.mk rfl hb1
 ·have hn0:((n:Int) == 0)=true:=beq_iff_eq.2 (by omega)
  clear hw
  go_enter Tryz.func45,Tryz.ntmps45
  go_wp2_with fail
  go_ret
  exact Ans.mk rfl (Below.refl _ _)
set_option maxHeartbeats 400000 in
theorem rDepth_tree (A:Option Addr) (n cap:Nat) (l:List Nd) (x0:Nd) (k0:F) (w:World) (h:RdN w w.heap.size A n l) (hc:n≤cap) (hn:n≤1048576) (hok:(F.cons x0 k0 .nil).ok) (hl:l=x0::k0.flat) :
  Calls Tryz.prog 45 #[.slice A n cap] w (Ans (.int .i64 (k0.dep+1:Nat)) w):=by
 have hw:wholeB l=true:=by rw [hl];exact tree_whole hok
 obtain ⟨h0,hs⟩:=whole_size hw
 rw [h.len] at h0 hs
 have HS:=Lib.hid hs
 have hd:l.drop 0=(F.cons x0 k0 .nil).flat++[]:=by rw [hl];simp [F.flat]
 have hR:=fun w (h:RdN w w.heap.size A n l)=>rdepth_any A n cap l hc (by omega) (k0.sz+1) 0 x0 k0 .nil [] w (by omega) h hok hd
 have HR:=Lib.hid hR
 have hn0:((n:Int) == 0)=false:=beq_eq_false_iff_ne.2 (by omega)
 clear hs hw hR hd hl hok
 go_enter Tryz.func45,Tryz.ntmps45
 go_wp2_with fail
 refine (rsize_any A n cap l 0 w h hc (by omega)).mono ?_
 rw [HS.out]
 rintro e w1 ⟨rfl,hb1⟩
 go_wp2_with fail
 refine (HR.out w1 (h.on hb1)).mono ?_
 rintro e w2 ⟨rfl,hb2⟩
 go_wp2_with fail
 go_ret
 exact Ans.mk rfl (hb1.trans (hb2.mono hb1.size))
set_option maxHeartbeats 400000 in
theorem rLength_tree (A:Option Addr) (n cap:Nat) (l:List Nd) (x0:Nd) (k0:F) (w:World) (h:RdN w w.heap.size A n l) (hc:n≤cap) (hn:n≤1048576) (hok:(F.cons x0 k0 .nil).ok) (hl:l=x0::k0.flat) :
  Calls Tryz.prog 46 #[.slice A n cap] w (Len (F.tick x0 k0.len) w):=by
 have hD:=fun w (h:RdN w w.heap.size A n l)=>rDepth_tree A n cap l x0 k0 w h hc hn hok hl
 have hd:l.drop 0=(F.cons x0 k0 .nil).flat++[]:=by rw [hl];simp [F.flat]
 have hR:=fun w (h:RdN w w.heap.size A n l)=>rlength_any A n cap l hc (by omega) (k0.sz+1) 0 x0 k0 .nil [] w (by omega) h hok hd
 have HD:=Lib.hid hD
 have HR:=Lib.hid hR
 clear hD hR hd hl hok
 have hd0:(((k0.dep+1:Nat):Int) == 0)=false:=beq_eq_false_iff_ne.2 (by omega)
 generalize k0.dep+1=D at HD hd0
 generalize F.tick x0 k0.len=T at HR ⊢
 generalize hHd:hl4 T=H at HR
 have hh:H=min T 4097:=by rw [← hHd];rfl
 clear hHd
 by_cases hT:T≤4096
 ·obtain rfl:H=T:=by omega
  clear hh
  go_enter Tryz.func46,Tryz.ntmps46
  go_wp2_with fail
  refine (HD.out w h).mono ?_
  rintro e w1 ⟨rfl,hb1⟩
  go_wp2_with fail
  refine (HR.out w1 (h.on hb1)).mono ?_
  rintro e w2 ⟨rfl,hb2⟩
  go_wp2_with fail
  go_ret2
  exact Len.mk (by unfold lv;rw [if_pos hT]) (by unfold lb;exact decide_eq_true hT) (hb1.trans (hb2.mono hb1.size))
 ·obtain rfl:H=4097:=by omega
  clear hh
  go_enter Tryz.func46,Tryz.ntmps46
  go_wp2_with fail
  refine (HD.out w h).mono ?_
  rintro e w1 ⟨rfl,hb1⟩
  go_wp2_with fail
  refine (HR.out w1 (h.on hb1)).mono ?_
  rintro e w2 ⟨rfl,hb2⟩
  go_wp2_with fail
  go_ret2
  exact Len.mk (by unfold lv;rw [if_neg hT]) (by unfold lb;exact decide_eq_false hT) (hb1.trans (hb2.mono hb1.size))
def rt (n D T:Nat):Int:=if 128 < n then 3 else if 16 < D then 14 else if 4096 < T then 18 else 0
def rn (n:Nat):Int:=if 128 < n then 3 else 12
set_option maxHeartbeats 400000 in
theorem right_none (A:Option Addr) (n cap:Nat) (l:List Nd) (w:World) (h:RdN w w.heap.size A n l) (hc:n≤cap) (hn:n≤1048576) (hw:wholeB l=false) :
  Calls Tryz.prog 36 #[.slice A n cap] w (Ans (.int .i64 (rn n)) w):=by
 have HW:=Lib.hid hw
 clear hw
 by_cases h1:128 < n
 ·have HE:Hid (rn n=3):=Lib.hid (if_pos h1)
  have h1':(128:Int) < (n:Int):=by omega
  go_enter Tryz.func36,Tryz.ntmps36
  go_wp2_with fail
  go_ret
  exact Ans.mk (by rw [HE.out];rfl) (Below.refl _ _)
 ·have HE:Hid (rn n=12):=Lib.hid (if_neg h1)
  have h1':¬ (128:Int) < (n:Int):=by omega
  go_enter Tryz.func36,Tryz.ntmps36
  go_wp2_with fail
  refine (whole_any A n cap l w h hc (by omega)).mono ?_
  rw [HW.out]
  rintro e w1 ⟨rfl,hb1⟩
  go_wp2_with fail
  go_ret
  exact Ans.mk (by rw [HE.out];rfl) hb1
set_option maxHeartbeats 400000 in
theorem rright_none (A:Option Addr) (n cap:Nat) (l:List Nd) (w:World) (h:RdN w w.heap.size A n l) (hc:n≤cap) (hn:n≤1048576) (hw:wholeB l=false) :
  Calls Tryz.prog 18 #[.slice A n cap] w (Ans (.int .i64 (rn n)) w):=by
 have HW:=Lib.hid hw
 clear hw
 by_cases h1:128 < n
 ·have HE:Hid (rn n=3):=Lib.hid (if_pos h1)
  have h1':(128:Int) < (n:Int):=by omega
  go_enter Tryz.func18,Tryz.ntmps18
  go_wp2_with fail
  go_ret
  exact Ans.mk (by rw [HE.out];rfl) (Below.refl _ _)
 ·have HE:Hid (rn n=12):=Lib.hid (if_neg h1)
  have h1':¬ (128:Int) < (n:Int):=by omega
  go_enter Tryz.func18,Tryz.ntmps18
  go_wp2_with fail
  refine (rDepth_none A n cap l w h hc hn HW.out).mono ?_
  rintro e w1 ⟨rfl,hb1⟩
  go_wp2_with fail
  go_ret
  exact Ans.mk (by rw [HE.out];rfl) hb1
set_option maxHeartbeats 800000 in
theorem right_tree (A:Option Addr) (n cap:Nat) (l:List Nd) (x0:Nd) (k0:F) (w:World) (h:RdN w w.heap.size A n l) (hc:n≤cap) (hn:n≤1048576) (hok:(F.cons x0 k0 .nil).ok) (hl:l=x0::k0.flat) :
  Calls Tryz.prog 36 #[.slice A n cap] w (Ans (.int .i64 (rt n (k0.dep+1) (F.tick x0 k0.len))) w):=by
 have hwh:wholeB l=true:=by rw [hl];exact tree_whole hok
 have HWH:=Lib.hid hwh
 have HD:=Lib.hid fun w (h:RdN w w.heap.size A n l)=>depth_tree A n cap l x0 k0 w h hc hn hok hl
 have HL:=Lib.hid fun w (h:RdN w w.heap.size A n l)=>length_tree A n cap l x0 k0 w h hc hn hok hl
 clear hwh hok hl
 generalize k0.dep+1=D at HD ⊢
 generalize F.tick x0 k0.len=T at HL ⊢
 by_cases h1:128 < n
 ·have HE:Hid (rt n D T=3):=Lib.hid (if_pos h1)
  have h1':(128:Int) < (n:Int):=by omega
  go_enter Tryz.func36,Tryz.ntmps36
  go_wp2_with fail
  go_ret
  exact Ans.mk (by rw [HE.out];rfl) (Below.refl _ _)
 have h1':¬ (128:Int) < (n:Int):=by omega
 by_cases h2:16 < D
 ·have HE:Hid (rt n D T=14):=Lib.hid (by unfold rt;rw [if_neg h1,if_pos h2])
  have h2':(16:Int) < (D:Int):=by omega
  go_enter Tryz.func36,Tryz.ntmps36
  go_wp2_with fail
  refine (whole_any A n cap l w h hc (by omega)).mono ?_
  rw [HWH.out]
  rintro e w1 ⟨rfl,hb1⟩
  go_wp2_with fail
  refine (HD.out w1 (h.on hb1)).mono ?_
  rintro e w2 ⟨rfl,hb2⟩
  have k2:=hb1.trans (hb2.mono hb1.size)
  go_wp2_with fail
  go_ret
  exact Ans.mk (by rw [HE.out];rfl) k2
 have h2':¬ (16:Int) < (D:Int):=by omega
 by_cases h3:4096 < T
 ·have HE:Hid (rt n D T=18):=Lib.hid (by unfold rt;rw [if_neg h1,if_neg h2,if_pos h3])
  have hB:lb T=false:=by unfold lb;exact decide_eq_false (by omega)
  have HB:=Lib.hid hB
  clear hB
  go_enter Tryz.func36,Tryz.ntmps36
  go_wp2_with fail
  refine (whole_any A n cap l w h hc (by omega)).mono ?_
  rw [HWH.out]
  rintro e w1 ⟨rfl,hb1⟩
  go_wp2_with fail
  refine (HD.out w1 (h.on hb1)).mono ?_
  rintro e w2 ⟨rfl,hb2⟩
  have k2:=hb1.trans (hb2.mono hb1.size)
  go_wp2_with fail
  refine (HL.out w2 (h.on k2)).mono ?_
  unfold Len
  rw [HB.out]
  rintro e w3 ⟨rfl,hb3⟩
  have k3:=k2.trans (hb3.mono k2.size)
  go_wp2_with fail
  go_ret
  exact Ans.mk (by rw [HE.out];rfl) k3
 ·have HE:Hid (rt n D T=0):=Lib.hid (by unfold rt;rw [if_neg h1,if_neg h2,if_neg h3])
  have hB:lb T=true:=by unfold lb;exact decide_eq_true (by omega)
  have HB:=Lib.hid hB
  clear hB
  go_enter Tryz.func36,Tryz.ntmps36
  go_wp2_with fail
  refine (whole_any A n cap l w h hc (by omega)).mono ?_
  rw [HWH.out]
  rintro e w1 ⟨rfl,hb1⟩
  go_wp2_with fail
  refine (HD.out w1 (h.on hb1)).mono ?_
  rintro e w2 ⟨rfl,hb2⟩
  have k2:=hb1.trans (hb2.mono hb1.size)
  go_wp2_with fail
  refine (HL.out w2 (h.on k2)).mono ?_
  unfold Len
  rw [HB.out]
  rintro e w3 ⟨rfl,hb3⟩
  have k3:=k2.trans (hb3.mono k2.size)
  go_wp2_with fail
  go_ret
  exact Ans.mk (by rw [HE.out];rfl) k3
set_option maxHeartbeats 800000 in
theorem rright_tree (A:Option Addr) (n cap:Nat) (l:List Nd) (x0:Nd) (k0:F) (w:World) (h:RdN w w.heap.size A n l) (hc:n≤cap) (hn:n≤1048576) (hok:(F.cons x0 k0 .nil).ok) (hl:l=x0::k0.flat) :
  Calls Tryz.prog 18 #[.slice A n cap] w (Ans (.int .i64 (rt n (k0.dep+1) (F.tick x0 k0.len))) w):=by
 have hwh:wholeB l=true:=by rw [hl];exact tree_whole hok
 have HWH:=Lib.hid hwh
 have HD:=Lib.hid fun w (h:RdN w w.heap.size A n l)=>rDepth_tree A n cap l x0 k0 w h hc hn hok hl
 have HL:=Lib.hid fun w (h:RdN w w.heap.size A n l)=>rLength_tree A n cap l x0 k0 w h hc hn hok hl
 clear hwh hok hl
 have hd0:(((k0.dep+1:Nat):Int) == 0)=false:=beq_eq_false_iff_ne.2 (by omega)
 generalize k0.dep+1=D at HD hd0 ⊢
 generalize F.tick x0 k0.len=T at HL ⊢
 by_cases h1:128 < n
 ·have HE:Hid (rt n D T=3):=Lib.hid (if_pos h1)
  have h1':(128:Int) < (n:Int):=by omega
  go_enter Tryz.func18,Tryz.ntmps18
  go_wp2_with fail
  go_ret
  exact Ans.mk (by rw [HE.out];rfl) (Below.refl _ _)
 have h1':¬ (128:Int) < (n:Int):=by omega
 by_cases h2:16 < D
 ·have HE:Hid (rt n D T=14):=Lib.hid (by unfold rt;rw [if_neg h1,if_pos h2])
  have h2':(16:Int) < (D:Int):=by omega
  go_enter Tryz.func18,Tryz.ntmps18
  go_wp2_with fail
  refine (HD.out w h).mono ?_
  rintro e w1 ⟨rfl,hb1⟩
  go_wp2_with fail
  refine (HD.out w1 (h.on hb1)).mono ?_
  rintro e w2 ⟨rfl,hb2⟩
  have k2:=hb1.trans (hb2.mono hb1.size)
  go_wp2_with fail
  go_ret
  exact Ans.mk (by rw [HE.out];rfl) k2
 have h2':¬ (16:Int) < (D:Int):=by omega
 by_cases h3:4096 < T
 ·have HE:Hid (rt n D T=18):=Lib.hid (by unfold rt;rw [if_neg h1,if_neg h2,if_pos h3])
  have hB:lb T=false:=by unfold lb;exact decide_eq_false (by omega)
  have HB:=Lib.hid hB
  clear hB
  go_enter Tryz.func18,Tryz.ntmps18
  go_wp2_with fail
  refine (HD.out w h).mono ?_
  rintro e w1 ⟨rfl,hb1⟩
  go_wp2_with fail
  refine (HD.out w1 (h.on hb1)).mono ?_
  rintro e w2 ⟨rfl,hb2⟩
  have k2:=hb1.trans (hb2.mono hb1.size)
  go_wp2_with fail
  refine (HL.out w2 (h.on k2)).mono ?_
  unfold Len
  rw [HB.out]
  rintro e w3 ⟨rfl,hb3⟩
  have k3:=k2.trans (hb3.mono k2.size)
  go_wp2_with fail
  go_ret
  exact Ans.mk (by rw [HE.out];rfl) k3
 ·have HE:Hid (rt n D T=0):=Lib.hid (by unfold rt;rw [if_neg h1,if_neg h2,if_neg h3])
  have hB:lb T=true:=by unfold lb;exact decide_eq_true (by omega)
  have HB:=Lib.hid hB
  clear hB
  go_enter Tryz.func18,Tryz.ntmps18
  go_wp2_with fail
  refine (HD.out w h).mono ?_
  rintro e w1 ⟨rfl,hb1⟩
  go_wp2_with fail
  refine (HD.out w1 (h.on hb1)).mono ?_
  rintro e w2 ⟨rfl,hb2⟩
  have k2:=hb1.trans (hb2.mono hb1.size)
  go_wp2_with fail
  refine (HL.out w2 (h.on k2)).mono ?_
  unfold Len
  rw [HB.out]
  rintro e w3 ⟨rfl,hb3⟩
  have k3:=k2.trans (hb3.mono k2.size)
  go_wp2_with fail
  go_ret
  exact Ans.mk (by rw [HE.out];rfl) k3
end Go.Proofs.YtfmndmhjjbeokaaGreatDoor
namespace Go.Proofs.YtfmndmhjjbeokaaGreatDoor
open Go.RowKit Tab
set_option linter.unusedSimpArgs false
set_option linter.unusedVariables false
def MadeR (L:List Rn) (w:World) (e:Ending) (w':World):Prop:=∃ A c,e=.returned (.slice A L.length c)∧RdR w' w'.heap.size A L.length L∧L.length≤c∧Below w.heap.size w w'∧∀ ad,A=some ad→w.heap.size≤ad.block
theorem OwnV.rdr {w:World} {B n c:Nat} {A:Option Addr} {L:List Rn} (h:OwnV 129 2 w B A n c (rs L)):RdR w w.heap.size A n L:=⟨by have:=h.len;rw [rs_length] at this;omega,h.rd⟩
set_option maxHeartbeats 400000 in
theorem rLeaves_right (A:Option Addr) (n cap:Nat) (x:Nd) (k:F) (w:World) (h:RdN w w.heap.size A n (x::k.flat)) (hc:n≤cap) (hok:(F.cons x k .nil).ok) (hn:n≤128) (hl:F.tick x k.len≤4096) :
  Calls Tryz.prog 86 #[.slice A n cap] w (MadeR (one x k.lvs) w):=by
 have hpos:∀ r∈one x k.lvs,1≤r.n:=fun r hr=>lvs_pos hok r (by simpa [F.lvs] using hr)
 have hlen:=length_le_ticks hpos
 rw [one_ticks,lvs_ticks] at hlen
 have hdr:(x::k.flat).drop 0=(F.cons x k .nil).flat++[]:=by simp [F.flat]
 have hL:Calls Tryz.prog 117 #[.slice A n cap,.int .i64 0,.slice none 0 0] w (MoreR w.heap.size none (one x k.lvs) w):=by
  have:=rleaves_any w.heap.size A n cap _ hc (by omega) (k.sz+1) 0 x k .nil [] w none 0 0 [] (by omega) h hok hdr (Nat.le_refl _) rfl (OwnV.nil _ _ _ _) (by omega)
  simpa using this
 have HL:=Lib.hid hL
 clear hL hpos hlen hdr hok
 generalize one x k.lvs=L at HL ⊢
 go_enter Tryz.func86,Tryz.ntmps86
 go_wp2_with fail
 refine HL.out.mono ?_
 rintro e w1 ⟨A1,c1,rfl,ho,hb,_⟩
 have HO:=Lib.hid ho
 clear ho
 generalize hq:L.length=q
 have HQ:=Lib.hid hq
 clear hq
 go_wp2_with fail
 go_ret
 refine ⟨A1,c1,by rw [HQ.out];rfl,HO.out.rdr,HO.out.cap,hb,HO.out.newer⟩
end Go.Proofs.YtfmndmhjjbeokaaGreatDoor
