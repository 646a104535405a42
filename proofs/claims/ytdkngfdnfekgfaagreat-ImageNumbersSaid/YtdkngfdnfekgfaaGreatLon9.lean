import Derived.Test.YtdkngfdnfekgfaaGreatLon8
import Derived.Test.YtdkngfdnfekgfaaGreatLon7
import Derived.IntWalk
import Derived.BigQuiet
import Derived.Deep.QuietTactic
set_option maxHeartbeats 3200000
set_option maxRecDepth 100000
set_option linter.unusedSimpArgs false
set_option linter.unusedVariables false
namespace Go.Proofs.YtdkngfdnfekgfaaGreat
open Go.RowKit Tab
theorem length_none(A:Option Addr)(n cap:Nat)(l:List Nd)(w:World)(h:RdN w w.heap.size A n l)(hc:n≤cap)(hn:n≤1048576)(hw:wholeB l=false):
  Calls Tryz.prog 122 #[.slice A n cap] w (Len 4097 w):=by
 have HW:=hid hw;clear hw;go_enter Tryz.func122,Tryz.ntmps122;go_wp2_with fail;refine(whole_any A n cap l w h hc (by omega)).mono ?_;rw[HW.out];rintro e w1⟨rfl,hb1⟩;go_wp2_with fail;go_ret2;exact Len.mk rfl rfl hb1
theorem depth_tree(A:Option Addr)(n cap:Nat)(l:List Nd)(x0:Nd)(k0:F)(w:World)(h:RdN w w.heap.size A n l)(hc:n≤cap)(hn:n≤1048576)(hok:(F.cons x0 k0 .nil).ok)(hl:l=x0::k0.flat):
  Calls Tryz.prog 121 #[.slice A n cap] w (Ans (.int .i64 (k0.dep+1:Nat)) w):=by
 have hwh:wholeB l=true:=by rw[hl];exact tree_whole hok
 obtain⟨i1,i2,i3,i4⟩:=InvP.start hok rfl;have e1:(F.cons x0 k0 .nil).flat=l:=by rw[hl];simp[F.flat]
 have e2:(F.cons x0 k0 .nil).dep=k0.dep+1:=by simp[F.dep]
 have i2:=i2.trans e1;rw[e2] at i4;have hD:k0.dep+1≤n:=by
  have:=F.dep_le_sz k0;have h1:=h.len;rw[hl] at h1;simp only[List.length_cons,F.flat_length] at h1;omega
 generalize k0.dep+1=D at i4 hD ⊢;generalize (F.cons x0 k0 .nil)=f0 at i1 i2 i4;have I1:=hid i1;have I2:=hid i2;have I4:=hid i4;have HWH:=hid hwh;clear i1 i2 i3 i4 hwh hok hl e1 e2;go_enter Tryz.func121,Tryz.ntmps121;go_wp2_with fail;refine(whole_any A n cap l w h hc (by omega)).mono ?_;rw[HWH.out];rintro e w1⟨rfl,hb1⟩;go_wp2_with fail;go_loopw [3,4,12] (fun sm q s wr=>∃(i d:Nat) (st:List (Nat×Nat)) (cur:F) (fs:List F) (A1:Option Addr) (n1 c1:Nat),i≤n∧s=.int .i64 i∧sm=.int .i64 d∧q=.slice A1 n1 c1∧OwnP wr w.heap.size A1 n1 c1 st∧InvP st cur fs ∧
  cur.flat++flats fs=l.drop i∧max d (deepR st cur fs)=D∧Below w.heap.size w wr∧n1≤i) (fun _ _ s _=>n - (intOf s).toNat)
 case atStart=>exact⟨0,0,[],f0,[],none,0,0,by omega,rfl,rfl,rfl,OwnP.nil _ _,I1.out,I2.out,by rw[I4.out];omega,hb1,by omega⟩
 obtain⟨i,d,st,cur,fs,A1,n1,c1,hi,rfl,rfl,rfl,hp,hv,hrest,hsum,hb,hn1⟩:=hrel;have hd:d≤D:=by omega
 have HV:=hid hv;have HR:=hid hrest;have HS:=hid hsum;clear hv hrest hsum;by_cases hlt:i < n
 ·obtain⟨ad,x,rfl,_,hx,hin,c0,c1',c2⟩:=(h.on hb).at_ hlt;have hdr:=drop_cons hx;have hlow:=InvP.low HV.out HR.out 1048577 (by rw[List.length_drop,h.len];omega);have hge:=deep_ge HV.out (HR.out.trans hdr);obtain⟨hf,cur',fs',j1,j2,j3,j4⟩:=Tab.step HV.out (HR.out.trans hdr);obtain⟨hT1,hT2⟩:=InvP.times HV.out;obtain⟨xk,xp,xn⟩:=x;have hz2:xn≤9223372036854775807:=hin.2.2.2;have hj:max (max d (n1+1)) (deepR (behind st ⟨xk,xp,xn⟩) cur' fs')=D:=by
   have h1:=hp.1;have h2:=HS.out;rw[h1];omega
  have HF:=hid hf;have J1:=hid j1;have J2:=hid j2;have J4:=hid hj;have HLOW:=hid hlow;clear hf j1 j2 j3 j4 hdr hx hin hlow hge hj;have hBs:=hb.size;have hb2':=bl1 wr (.cells #[.int .i64 xk,.int .i64 xp,.int .i64 xn] 70);have hp2:OwnP (wr.alloc (.cells #[.int .i64 xk,.int .i64 xp,.int .i64 xn] 70)) w.heap.size A1 n1 c1 st:=hp.keep fun b _ hlt=>hb2'.block b hlt;have hbw:=hb.trans (hb2'.mono hb.size);go_wp2_with fail
  all_goals
   refine(behind_any w.heap.size A1 n1 c1 st xk xp xn _ hp2 hbw.size (by omega) HF.out hz2 hT1 hT2 (fun e he=>by have:=HLOW.out e he;omega)).mono ?_;rintro e w3⟨A3,n3,c3,rfl,hp3,hb3⟩;have hn3:n3≤i+1:=by
    have h1:=hp3.1;have h2:=behind_len st ⟨xk,xp,xn⟩;have h3:=hp.1;omega
   go_wp2_with fail;go_roundw
   case rel=>exact⟨i+1,max d (n1+1),_,cur',fs',A3,n3,c3,by omega,by go_num,ret_num (by omega),rfl,hp3,J1.out,J2.out.symm,J4.out,hbw.trans hb3,hn3⟩
   simp[intOf];omega
 have hge:n≤i:=by omega
 obtain⟨r0,r1⟩:=InvP.done HV.out (by rw[HR.out];exact List.drop_eq_nil_of_le (by rw[h.len];exact hge));have e4:=HS.out;rw[r1] at e4;have e5:d=D:=by omega
 have E5:=hid e5;clear r0 r1 e4 e5;go_wp2_with fail;go_ret;exact Ans.mk (by rw[E5.out];rfl) hb
theorem whole_size{l:List Nd}(h:wholeB l=true):0 < l.length∧size l 0=l.length:=by
 unfold wholeB at h;simp only[Bool.and_eq_true,decide_eq_true_eq] at h;exact h
theorem not_whole{l:List Nd}(h:wholeB l=false)(h0:0 < l.length):¬ size l 0=l.length:=fun h1=>by
 unfold wholeB at h
 rw[decide_eq_true h0,decide_eq_true h1] at h
 cases h
theorem rDepth_none(A:Option Addr)(n cap:Nat)(l:List Nd)(w:World)(h:RdN w w.heap.size A n l)(hc:n≤cap)(hn:n≤1048576)(hw:wholeB l=false):
  Calls Tryz.prog 89 #[.slice A n cap] w (Ans (.int .i64 (0:Nat)) w):=by
 by_cases h0:0 < n
 ·have hs:=not_whole hw (by rw[h.len];exact h0);rw[h.len] at hs;generalize hS:size l 0=S at hs;have HS:=hid hS;have hs':((S:Int) == (n:Int))=false:=beq_eq_false_iff_ne.2 (by omega);have hn0:((n:Int) == 0)=false:=beq_eq_false_iff_ne.2 (by omega);clear hS hs hw;go_enter Tryz.func89,Tryz.ntmps89;go_wp2_with fail;refine(rsize_any A n cap l 0 w h hc (by omega)).mono ?_;rw[HS.out];rintro e w1⟨rfl,hb1⟩;go_wp2_with fail
  all_goals
   go_ret;exact Ans.mk rfl hb1
 have hn0:((n:Int) == 0)=true:=beq_iff_eq.2 (by omega);clear hw;go_enter Tryz.func89,Tryz.ntmps89;go_wp2_with fail;go_ret;exact Ans.mk rfl (Below.refl _ _)
theorem rDepth_tree(A:Option Addr)(n cap:Nat)(l:List Nd)(x0:Nd)(k0:F)(w:World)(h:RdN w w.heap.size A n l)(hc:n≤cap)(hn:n≤1048576)(hok:(F.cons x0 k0 .nil).ok)(hl:l=x0::k0.flat):
  Calls Tryz.prog 89 #[.slice A n cap] w (Ans (.int .i64 (k0.dep+1:Nat)) w):=by
 have hw:wholeB l=true:=by rw[hl];exact tree_whole hok
 obtain⟨h0,hs⟩:=whole_size hw;rw[h.len] at h0 hs;have HS:=hid hs;have hd:l.drop 0=(F.cons x0 k0 .nil).flat++[]:=by rw[hl];simp[F.flat]
 have hR:=fun w (h:RdN w w.heap.size A n l)=>rdepth_any A n cap l hc (by omega) (k0.sz+1) 0 x0 k0 .nil [] w (by omega) h hok hd;have HR:=hid hR;have hn0:((n:Int) == 0)=false:=beq_eq_false_iff_ne.2 (by omega);clear hs hw hR hd hl hok;go_enter Tryz.func89,Tryz.ntmps89;go_wp2_with fail;refine(rsize_any A n cap l 0 w h hc (by omega)).mono ?_;rw[HS.out];rintro e w1⟨rfl,hb1⟩;go_wp2_with fail;refine(HR.out w1 (h.on hb1)).mono ?_;rintro e w2⟨rfl,hb2⟩;go_wp2_with fail;go_ret;exact Ans.mk rfl (hb1.trans (hb2.mono hb1.size))
theorem rLength_tree(A:Option Addr)(n cap:Nat)(l:List Nd)(x0:Nd)(k0:F)(w:World)(h:RdN w w.heap.size A n l)(hc:n≤cap)(hn:n≤1048576)(hok:(F.cons x0 k0 .nil).ok)(hl:l=x0::k0.flat):
  Calls Tryz.prog 90 #[.slice A n cap] w (Len (F.tick x0 k0.len) w):=by
 have hD:=fun w (h:RdN w w.heap.size A n l)=>rDepth_tree A n cap l x0 k0 w h hc hn hok hl;have hd:l.drop 0=(F.cons x0 k0 .nil).flat++[]:=by rw[hl];simp[F.flat]
 have hR:=fun w (h:RdN w w.heap.size A n l)=>rlength_any A n cap l hc (by omega) (k0.sz+1) 0 x0 k0 .nil [] w (by omega) h hok hd;have HD:=hid hD;have HR:=hid hR;clear hD hR hd hl hok;have hd0:(((k0.dep+1:Nat):Int) == 0)=false:=beq_eq_false_iff_ne.2 (by omega);generalize k0.dep+1=D at HD hd0;generalize F.tick x0 k0.len=T at HR ⊢;generalize hHd:hl4 T=H at HR;have hh:H=min T 4097:=by rw[← hHd];rfl
 clear hHd;by_cases hT:T≤4096
 ·obtain rfl:H=T:=by omega
  clear hh;go_enter Tryz.func90,Tryz.ntmps90;go_wp2_with fail;refine(HD.out w h).mono ?_;rintro e w1⟨rfl,hb1⟩;go_wp2_with fail;refine(HR.out w1 (h.on hb1)).mono ?_;rintro e w2⟨rfl,hb2⟩;go_wp2_with fail;go_ret2;exact Len.mk (by unfold lv;rw[if_pos hT]) (by unfold lb;exact decide_eq_true hT) (hb1.trans (hb2.mono hb1.size))
 obtain rfl:H=4097:=by omega
 clear hh;go_enter Tryz.func90,Tryz.ntmps90;go_wp2_with fail;refine(HD.out w h).mono ?_;rintro e w1⟨rfl,hb1⟩;go_wp2_with fail;refine(HR.out w1 (h.on hb1)).mono ?_;rintro e w2⟨rfl,hb2⟩;go_wp2_with fail;go_ret2;exact Len.mk (by unfold lv;rw[if_neg hT]) (by unfold lb;exact decide_eq_false hT) (hb1.trans (hb2.mono hb1.size))
def rt(n D T:Nat):Int:=if 128 < n then 3 else if 16 < D then 14 else if 4096 < T then 18 else 0
def rn(n:Nat):Int:=if 128 < n then 3 else 12
theorem right_none(A:Option Addr)(n cap:Nat)(l:List Nd)(w:World)(h:RdN w w.heap.size A n l)(hc:n≤cap)(hn:n≤1048576)(hw:wholeB l=false):
  Calls Tryz.prog 114 #[.slice A n cap] w (Ans (.int .i64 (rn n)) w):=by
 have HW:=hid hw;clear hw;by_cases h1:128 < n
 ·have HE:Hid (rn n=3):=hid (if_pos h1);have h1':(128:Int) < (n:Int):=by omega
  go_enter Tryz.func114,Tryz.ntmps114;go_wp2_with fail;go_ret;exact Ans.mk (by rw[HE.out];rfl) (Below.refl _ _)
 have HE:Hid (rn n=12):=hid (if_neg h1);have h1':¬ (128:Int) < (n:Int):=by omega
 go_enter Tryz.func114,Tryz.ntmps114;go_wp2_with fail;refine(whole_any A n cap l w h hc (by omega)).mono ?_;rw[HW.out];rintro e w1⟨rfl,hb1⟩;go_wp2_with fail;go_ret;exact Ans.mk (by rw[HE.out];rfl) hb1
theorem rright_none(A:Option Addr)(n cap:Nat)(l:List Nd)(w:World)(h:RdN w w.heap.size A n l)(hc:n≤cap)(hn:n≤1048576)(hw:wholeB l=false):
  Calls Tryz.prog 65 #[.slice A n cap] w (Ans (.int .i64 (rn n)) w):=by
 have HW:=hid hw;clear hw;by_cases h1:128 < n
 ·have HE:Hid (rn n=3):=hid (if_pos h1);have h1':(128:Int) < (n:Int):=by omega
  go_enter Tryz.func65,Tryz.ntmps65;go_wp2_with fail;go_ret;exact Ans.mk (by rw[HE.out];rfl) (Below.refl _ _)
 have HE:Hid (rn n=12):=hid (if_neg h1);have h1':¬ (128:Int) < (n:Int):=by omega
 go_enter Tryz.func65,Tryz.ntmps65;go_wp2_with fail;refine(rDepth_none A n cap l w h hc hn HW.out).mono ?_;rintro e w1⟨rfl,hb1⟩;go_wp2_with fail;go_ret;exact Ans.mk (by rw[HE.out];rfl) hb1
theorem right_tree(A:Option Addr)(n cap:Nat)(l:List Nd)(x0:Nd)(k0:F)(w:World)(h:RdN w w.heap.size A n l)(hc:n≤cap)(hn:n≤1048576)(hok:(F.cons x0 k0 .nil).ok)(hl:l=x0::k0.flat):
  Calls Tryz.prog 114 #[.slice A n cap] w (Ans (.int .i64 (rt n (k0.dep+1) (F.tick x0 k0.len))) w):=by
 have hwh:wholeB l=true:=by rw[hl];exact tree_whole hok
 have HWH:=hid hwh;have HD:=hid fun w (h:RdN w w.heap.size A n l)=>depth_tree A n cap l x0 k0 w h hc hn hok hl;have HL:=hid fun w (h:RdN w w.heap.size A n l)=>length_tree A n cap l x0 k0 w h hc hn hok hl;clear hwh hok hl;generalize k0.dep+1=D at HD ⊢;generalize F.tick x0 k0.len=T at HL ⊢;by_cases h1:128 < n
 ·have HE:Hid (rt n D T=3):=hid (if_pos h1);have h1':(128:Int) < (n:Int):=by omega
  go_enter Tryz.func114,Tryz.ntmps114;go_wp2_with fail;go_ret;exact Ans.mk (by rw[HE.out];rfl) (Below.refl _ _)
 have h1':¬ (128:Int) < (n:Int):=by omega
 by_cases h2:16 < D
 ·have HE:Hid (rt n D T=14):=hid (by unfold rt;rw[if_neg h1,if_pos h2]);have h2':(16:Int) < (D:Int):=by omega
  go_enter Tryz.func114,Tryz.ntmps114;go_wp2_with fail;refine(whole_any A n cap l w h hc (by omega)).mono ?_;rw[HWH.out];rintro e w1⟨rfl,hb1⟩;go_wp2_with fail;refine(HD.out w1 (h.on hb1)).mono ?_;rintro e w2⟨rfl,hb2⟩;have k2:=hb1.trans (hb2.mono hb1.size);go_wp2_with fail;go_ret;exact Ans.mk (by rw[HE.out];rfl) k2
 have h2':¬ (16:Int) < (D:Int):=by omega
 by_cases h3:4096 < T
 ·have HE:Hid (rt n D T=18):=hid (by unfold rt;rw[if_neg h1,if_neg h2,if_pos h3]);have hB:lb T=false:=by unfold lb;exact decide_eq_false (by omega)
  have HB:=hid hB;clear hB;go_enter Tryz.func114,Tryz.ntmps114;go_wp2_with fail;refine(whole_any A n cap l w h hc (by omega)).mono ?_;rw[HWH.out];rintro e w1⟨rfl,hb1⟩;go_wp2_with fail;refine(HD.out w1 (h.on hb1)).mono ?_;rintro e w2⟨rfl,hb2⟩;have k2:=hb1.trans (hb2.mono hb1.size);go_wp2_with fail;refine(HL.out w2 (h.on k2)).mono ?_;unfold Len;rw[HB.out];rintro e w3⟨rfl,hb3⟩;have k3:=k2.trans (hb3.mono k2.size);go_wp2_with fail;go_ret;exact Ans.mk (by rw[HE.out];rfl) k3
 have HE:Hid (rt n D T=0):=hid (by unfold rt;rw[if_neg h1,if_neg h2,if_neg h3]);have hB:lb T=true:=by unfold lb;exact decide_eq_true (by omega)
 have HB:=hid hB;clear hB;go_enter Tryz.func114,Tryz.ntmps114;go_wp2_with fail;refine(whole_any A n cap l w h hc (by omega)).mono ?_;rw[HWH.out];rintro e w1⟨rfl,hb1⟩;go_wp2_with fail;refine(HD.out w1 (h.on hb1)).mono ?_;rintro e w2⟨rfl,hb2⟩;have k2:=hb1.trans (hb2.mono hb1.size);go_wp2_with fail;refine(HL.out w2 (h.on k2)).mono ?_;unfold Len;rw[HB.out];rintro e w3⟨rfl,hb3⟩;have k3:=k2.trans (hb3.mono k2.size);go_wp2_with fail;go_ret;exact Ans.mk (by rw[HE.out];rfl) k3
theorem rright_tree(A:Option Addr)(n cap:Nat)(l:List Nd)(x0:Nd)(k0:F)(w:World)(h:RdN w w.heap.size A n l)(hc:n≤cap)(hn:n≤1048576)(hok:(F.cons x0 k0 .nil).ok)(hl:l=x0::k0.flat):
  Calls Tryz.prog 65 #[.slice A n cap] w (Ans (.int .i64 (rt n (k0.dep+1) (F.tick x0 k0.len))) w):=by
 have hwh:wholeB l=true:=by rw[hl];exact tree_whole hok
 have HWH:=hid hwh;have HD:=hid fun w (h:RdN w w.heap.size A n l)=>rDepth_tree A n cap l x0 k0 w h hc hn hok hl;have HL:=hid fun w (h:RdN w w.heap.size A n l)=>rLength_tree A n cap l x0 k0 w h hc hn hok hl;clear hwh hok hl;have hd0:(((k0.dep+1:Nat):Int) == 0)=false:=beq_eq_false_iff_ne.2 (by omega);generalize k0.dep+1=D at HD hd0 ⊢;generalize F.tick x0 k0.len=T at HL ⊢;by_cases h1:128 < n
 ·have HE:Hid (rt n D T=3):=hid (if_pos h1);have h1':(128:Int) < (n:Int):=by omega
  go_enter Tryz.func65,Tryz.ntmps65;go_wp2_with fail;go_ret;exact Ans.mk (by rw[HE.out];rfl) (Below.refl _ _)
 have h1':¬ (128:Int) < (n:Int):=by omega
 by_cases h2:16 < D
 ·have HE:Hid (rt n D T=14):=hid (by unfold rt;rw[if_neg h1,if_pos h2]);have h2':(16:Int) < (D:Int):=by omega
  go_enter Tryz.func65,Tryz.ntmps65;go_wp2_with fail;refine(HD.out w h).mono ?_;rintro e w1⟨rfl,hb1⟩;go_wp2_with fail;refine(HD.out w1 (h.on hb1)).mono ?_;rintro e w2⟨rfl,hb2⟩;have k2:=hb1.trans (hb2.mono hb1.size);go_wp2_with fail;go_ret;exact Ans.mk (by rw[HE.out];rfl) k2
 have h2':¬ (16:Int) < (D:Int):=by omega
 by_cases h3:4096 < T
 ·have HE:Hid (rt n D T=18):=hid (by unfold rt;rw[if_neg h1,if_neg h2,if_pos h3]);have hB:lb T=false:=by unfold lb;exact decide_eq_false (by omega)
  have HB:=hid hB;clear hB;go_enter Tryz.func65,Tryz.ntmps65;go_wp2_with fail;refine(HD.out w h).mono ?_;rintro e w1⟨rfl,hb1⟩;go_wp2_with fail;refine(HD.out w1 (h.on hb1)).mono ?_;rintro e w2⟨rfl,hb2⟩;have k2:=hb1.trans (hb2.mono hb1.size);go_wp2_with fail;refine(HL.out w2 (h.on k2)).mono ?_;unfold Len;rw[HB.out];rintro e w3⟨rfl,hb3⟩;have k3:=k2.trans (hb3.mono k2.size);go_wp2_with fail;go_ret;exact Ans.mk (by rw[HE.out];rfl) k3
 have HE:Hid (rt n D T=0):=hid (by unfold rt;rw[if_neg h1,if_neg h2,if_neg h3]);have hB:lb T=true:=by unfold lb;exact decide_eq_true (by omega)
 have HB:=hid hB;clear hB;go_enter Tryz.func65,Tryz.ntmps65;go_wp2_with fail;refine(HD.out w h).mono ?_;rintro e w1⟨rfl,hb1⟩;go_wp2_with fail;refine(HD.out w1 (h.on hb1)).mono ?_;rintro e w2⟨rfl,hb2⟩;have k2:=hb1.trans (hb2.mono hb1.size);go_wp2_with fail;refine(HL.out w2 (h.on k2)).mono ?_;unfold Len;rw[HB.out];rintro e w3⟨rfl,hb3⟩;have k3:=k2.trans (hb3.mono k2.size);go_wp2_with fail;go_ret;exact Ans.mk (by rw[HE.out];rfl) k3
end Go.Proofs.YtdkngfdnfekgfaaGreat
namespace Go.Proofs.YtdkngfdnfekgfaaGreat
open Go.RowKit
def wv(n:Int)(m:Nat):Int:=if 0≤n∧n≤m then n else if n.tmod (m+1) < 0 then n.tmod (m+1)+m+1 else n.tmod (m+1)
theorem wv_bd(n:Int)(m:Nat):0≤wv n m∧wv n m≤m:=by
 unfold wv;split
 ·omega
 by_cases h:0≤n
 ·have e:n.tmod ((m:Int)+1)=n % ((m:Int)+1):=Int.tmod_eq_emod_of_nonneg h;have h2:=Int.emod_nonneg n (b:=(m:Int)+1) (by omega);have h3:=Int.emod_lt_of_pos n (b:=(m:Int)+1) (by omega);rw[e,if_neg (by omega)];omega
 obtain⟨h2,h3⟩:=tmod_low n m (by omega);split <;> omega
theorem within_eq(n:Int)(m:Nat)(w:World)(hm:m < 4611686018427387904):
  Calls Tryz.prog 15 #[.int .i64 n,.int .i64 0,.int .i64 m] w fun e w'=>e=.returned (.int .i64 (wv n m))∧w'=w:=by
 generalize hv:wv n m=v;have HV:=hid hv;clear hv;have hm0:(0:Int)≤(m:Int):=Int.natCast_nonneg _;by_cases h0:0≤n
 ·by_cases h1:n≤(m:Int)
  ·go_enter Tryz.func15,Tryz.ntmps15;go_wp2;go_ret;exact⟨by rw[← HV.out,wv,if_pos ⟨h0,h1⟩];rfl,rfl⟩
  have h2:=Int.emod_nonneg n (b:=(m:Int)+1) (by omega);have h3:n % ((m:Int)+1)≤m:=by have:=Int.emod_lt_of_pos n (b:=(m:Int)+1) (by omega);omega
  go_enter Tryz.func15,Tryz.ntmps15;go_wp2;go_ret;refine⟨?_,rfl⟩;have e:n.tmod ((m:Int)+1)=n % ((m:Int)+1):=Int.tmod_eq_emod_of_nonneg h0;rw[← HV.out,wv,if_neg (by omega),e,if_neg (by omega)];simp
 obtain⟨h2,h3⟩:=tmod_low n m (by omega);by_cases h4:n.tmod ((m:Int)+1) < 0
 ·go_enter Tryz.func15,Tryz.ntmps15;go_wp2;go_ret;refine⟨?_,rfl⟩;rw[← HV.out,wv,if_neg (by omega),if_pos h4];simp
 go_enter Tryz.func15,Tryz.ntmps15;go_wp2;go_ret;refine⟨?_,rfl⟩;rw[← HV.out,wv,if_neg (by omega),if_neg (by omega)];simp
structure TapeW(w:World)(B b:Nat)(A:Option Addr)(m c:Nat)(f:Nat→Int)(at_:Nat):Prop where
 rd:RdC w B A m (fun j=>.int .i64 (f j))
 low:B≤b
 c0:w.cell? ⟨b,0,none⟩=some (.slice A m c)
 c1:w.cell? ⟨b,1,none⟩=some (.int .i64 (at_:Int))
 fr:w.frozen? ⟨b,1,none⟩=false
 le:at_≤m
 two:w.cell? ⟨b,2,none⟩=none
def Nexts(B b:Nat)(A:Option Addr)(m c:Nat)(f:Nat→Int)(n:Nat)(w:World)(e:Ending)(w':World):Prop :=
 ∃ k at_:Nat,k < n∧e=.returned (.int .i64 (k:Int))∧TapeW w' B b A m c f at_∧w.grownBy w' (some b)
theorem next_any(B b:Nat)(A:Option Addr)(m c:Nat)(f:Nat→Int)(at_ n:Nat)(w:World)(h:TapeW w B b A m c f at_)(hn:1≤n)(hn2:n≤64)(hm:m≤140737488351232):
  Calls Tryz.prog 21 #[.pointer (some ⟨b,0,none⟩),.int .i64 (n:Int)] w (Nexts B b A m c f n w):=by
 have H:=hid h;have c0:=h.c0;have c1:=h.c1;have hle:=h.le;clear h;by_cases hlt:at_ < m
 ·obtain⟨ad,rfl,hab,hcell⟩:=H.out.rd.at_ hlt;have hfr:=H.out.fr;have hlow:=H.out.low;have htwo:=H.out.two;have hF:∀ q,TapeW ((w.drewN q).setCell ⟨b,1,none⟩ (.int .i64 ((at_:Int)+1))) B b (some ad) m c f (at_+1)∧w.grownBy ((w.drewN q).setCell ⟨b,1,none⟩ (.int .i64 ((at_:Int)+1))) (some b):=fun q=>by
   have hbl:=World.block_lt_of_cell? w _ c1;refine⟨⟨H.out.rd.keep fun p hp=>?_,hlow,?_,?_,?_,by omega,?_⟩,⟨rfl,rfl,rfl,by simp[World.setCell],fun k hk hne=>?_⟩⟩
   ·exact World.cell?_of_block (Below.heap_setCell (w.drewN q) ⟨b,1,none⟩ _ p.block (fun e=>by dsimp only at e;omega))
   ·rw[World.cell?_setCell_other _ _ _ _ (by simp)];exact c0
   ·exact World.cell?_setCell_same _ _ _ (u:=.int .i64 (at_:Int)) c1
   ·simp;exact hfr
   ·rw[World.cell?_setCell_other _ _ _ _ (by simp)];exact htwo
   exact Below.heap_setCell (w.drewN q) ⟨b,1,none⟩ _ k (fun e=>hne (by rw[e]))
  have F:=hid hF;clear hF;have hmd:decide (m≤at_)=false:=decide_eq_false (by omega);go_enter Tryz.func21,Tryz.ntmps21;go_wp2_with fail;go_quiet (fail);go_wp2_with fail;obtain⟨T1,G1⟩:=F.out nq;generalize (w.drewN nq).setCell ⟨b,1,none⟩ (.int .i64 ((at_:Int)+1))=w1 at T1 G1 ⊢;have d0:=T1.c0;have d1:w1.cell? ⟨b,1,none⟩=some (.int .i64 ((at_:Int)+1)):=T1.c1;obtain⟨ad',e,_,dcell⟩:=T1.rd.at_ hlt;injection e with e;subst e;clear c0 c1 hcell hfr;have hwr:IntKind.i64.wrap ((at_:Int)+1 - 1)=(at_:Int):=by rw[IntWalk.i64_in _ (by omega)];omega
  have hwb:=wv_bd (f at_) 1073741824;have hW:=within_eq (f at_) 1073741824;generalize wv (f at_) 1073741824=z at hwb hW;obtain⟨Z,rfl⟩:=Int.eq_ofNat_of_zero_le hwb.1;have hrem:¬ n=0:=by omega
  have HW:=hid hW;clear hW;go_quiet ((go_at_call 15;exact Calls.quiet_of_same (HW.out _ (by decide))));go_wp2_with fail;go_ret;exact⟨Z % n,at_+1,Nat.mod_lt _ (by omega),by rw[Int.natCast_emod];rfl,⟨T1.rd,T1.low,T1.c0,T1.c1,T1.fr,T1.le,T1.two⟩,⟨G1.os,G1.tape,G1.output,G1.size,G1.block⟩⟩
 have hmd:decide (m≤at_)=true:=decide_eq_true (by omega);have F:Hid (∀ q,TapeW (w.drewN q) B b A m c f at_∧w.grownBy (w.drewN q) (some b)):=hid fun q=>by
  have h:=H.out;exact⟨⟨h.rd,h.low,h.c0,h.c1,h.fr,h.le,h.two⟩,⟨rfl,rfl,rfl,Nat.le_refl _,fun _ _ _=>rfl⟩⟩
 go_enter Tryz.func21,Tryz.ntmps21;go_wp2_with fail;go_quiet (fail);go_wp2_with fail;go_ret;exact⟨0,at_,by omega,rfl,(F.out _).1,(F.out _).2⟩
end Go.Proofs.YtdkngfdnfekgfaaGreat
