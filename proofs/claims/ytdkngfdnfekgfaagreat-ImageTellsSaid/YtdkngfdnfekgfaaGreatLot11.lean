import Derived.Test.YtdkngfdnfekgfaaGreatLot10
import Derived.IntWalk
import Derived.BigQuiet
import Derived.Deep.QuietTactic
set_option maxHeartbeats 3200000
set_option maxRecDepth 100000
set_option linter.unusedSimpArgs false
set_option linter.unusedVariables false
namespace Go.Proofs.YtdkngfdnfekgfaaGreat
open Go.RowKit Tab
theorem behind_any(B:Nat)(A:Option Addr)(n c:Nat)(st:List (Nat×Nat))(k p z:Int)(w:World)(h:OwnP w B A n c st)(hB:B≤w.heap.size)(hn:n≤1099511627776)(hf:fine ⟨k,p,z⟩=true)(hz:z≤9223372036854775807)
  (hT1:1≤times st) (hT2:times st≤4097) (ha:∀ e∈st,1≤e.1∧e.1≤1099511627776) :
  Calls Tryz.prog 130 #[.slice A n c,nd k p z] w (Paths B w (behind st ⟨k,p,z⟩)):=by
 have hz1:1≤z:=fine_one hf
 by_cases h3:k=3
 ·subst h3
  obtain⟨N,rfl⟩:=Int.eq_ofNat_of_zero_le (show 0≤z by omega)
  exact behind_seq B A n c st p N w h hB hn
 ·by_cases h4:k=4
  ·subst h4
   obtain⟨N,rfl⟩:=Int.eq_ofNat_of_zero_le (show 0≤z by omega)
   exact behind_rep B A n c st p N w h hB hn (by omega) (by omega) hT1 hT2
  ·have e:behind st ⟨k,p,z⟩=pops st:=by unfold behind;rw[if_neg h3,if_neg h4]
   rw[e]
   exact behind_leaf B A n c st k p z w h hB hn h3 h4 ha
theorem Outer.low{o:List (Nat×Nat)}{fs:List F}(h:Outer o fs)(M:Nat)(hM:∀ f∈fs,f.cnt < M):∀ e∈o,1≤e.1∧e.1≤M:=by
 induction o generalizing fs with
 | nil=>simp
 | cons x o ih =>
  obtain⟨a,t⟩:=x;cases fs with
  | nil=>exact h.elim
  | cons f fs =>
   obtain⟨h1,_,_,_,h5⟩:=h;intro e he;rcases List.mem_cons.1 he with rfl | he
   ·have:=hM f (by simp);dsimp only;omega
   exact ih h5 (fun g hg=>hM g (by simp[hg])) e he
theorem flats_len(fs:List F)(f:F)(h:f∈fs):f.cnt≤(flats fs).length:=by
 induction fs with
 | nil=>cases h
 | cons g fs ih =>
  simp only[flats,List.length_append];rcases List.mem_cons.1 h with rfl | h
  ·have:=F.cnt_le_sz f;rw[F.flat_length];omega
  have:=ih h;omega
theorem InvP.low{st:List (Nat×Nat)}{cur:F}{fs:List F}(h:InvP st cur fs){tl:List Nd}(hr:cur.flat++flats fs=tl)(M:Nat)(hM:tl.length < M):∀ e∈st,1≤e.1∧e.1≤M:=by
 have hl:=congrArg List.length hr;rw[List.length_append,F.flat_length] at hl;cases st with
 | nil=>simp
 | cons x o =>
  obtain⟨a,t⟩:=x;obtain⟨_,h1,h2,_,_,h5⟩:=h;intro e he;rcases List.mem_cons.1 he with rfl | he
  ·have:=F.cnt_le_sz cur;dsimp only;omega
  exact Outer.low h5 M (fun f hf=>by have:=flats_len fs f hf;omega) e he
theorem pops_len(st:List (Nat×Nat)):(pops st).length≤st.length:=by
 induction st with
 | nil=>simp[pops]
 | cons e o ih =>
  obtain⟨a,t⟩:=e;simp only[pops];split
  ·simp
  simp only[List.length_cons];omega
theorem behind_len(st:List (Nat×Nat))(x:Nd):(behind st x).length≤st.length+1:=by
 unfold behind;split
 ·simp
 split
 ·simp
 have:=pops_len st;omega
def lv(T:Nat):Int:=if T≤4096 then (T:Int) else 0
def lb(T:Nat):Bool:=decide (T≤4096)
def Len(T:Nat)(w:World)(e:Ending)(w':World):Prop:=e=.returned (.tuple #[.int .i64 (lv T),.bool (lb T)])∧Below w.heap.size w w'
theorem Len.mk{T:Nat}{z:Int}{b:Bool}{w w':World}(h1:lv T=z)(h2:lb T=b)(hb:Below w.heap.size w w'):Len T w (.returned (.tuple #[.int .i64 z,.bool b])) w':=⟨by rw[h1,h2],hb⟩
theorem times_q(B:Nat)(A:Option Addr)(n c:Nat)(st:List (Nat×Nat))(w:World)(T:Nat)(hT:times st=T)(h:OwnP w B A n c st)(hn:n≤1099511627776):
  Calls Tryz.prog 133 #[.slice A n c] w fun e w'=>e=.returned (.int .i64 (T:Int))∧w'=w:=by
 refine(times_any B A n c st w h hn).mono ?_;rintro e w'⟨rfl,rfl⟩;exact⟨by rw[hT],rfl⟩
theorem held_q(a b h:Nat)(w:World)(ha:1≤a)(hb:1≤b)(hb2:b≤4097)(ha2:a≤9223372036854775807)(hh:hold a b=h):Calls Tryz.prog 132 #[.int .i64 (a:Int),.int .i64 (b:Int)] w fun e w'=>e=.returned (.int .i64 (h:Int))∧w'=w:=by
 refine(held_any (a:Int) (b:Int) w (by omega) (by omega) (by omega) (by omega)).mono ?_;rintro e w'⟨rfl,rfl⟩;exact⟨by rw[hl_hold a b h hh],rfl⟩
theorem kn_kz{x:Nd}(h:fine x=true)(h0:kn x=0):kz x=0:=by rw[kz_kn h,h0];rfl
theorem kn_kz'{x:Nd}(h:fine x=true)(h0:kn x≠0):∃ K:Nat,kz x=(K:Int)∧0 < K:=⟨kn x,kz_kn h,by omega⟩
theorem length_tree(A:Option Addr)(n cap:Nat)(l:List Nd)(x0:Nd)(k0:F)(w:World)(h:RdN w w.heap.size A n l)(hc:n≤cap)(hn:n≤1048576)(hok:(F.cons x0 k0 .nil).ok)(hl:l=x0::k0.flat):
  Calls Tryz.prog 122 #[.slice A n cap] w (Len (F.tick x0 k0.len) w):=by
 have hwh:wholeB l=true:=by rw[hl];exact tree_whole hok
 obtain⟨i1,i2,i3,i4⟩:=InvP.start hok rfl;have e1:(F.cons x0 k0 .nil).flat=l:=by rw[hl];simp[F.flat]
 have e2:(F.cons x0 k0 .nil).len=F.tick x0 k0.len:=by simp[F.len]
 have i2:=i2.trans e1;rw[e2] at i3;generalize hTd:F.tick x0 k0.len=T at i3 ⊢;generalize (F.cons x0 k0 .nil)=f0 at i1 i2 i3;have I1:=hid i1;have I2:=hid i2;have I3:=hid i3;have HWH:=hid hwh;clear i1 i2 i3 i4 hwh hok hl e1 e2 hTd;go_enter Tryz.func122,Tryz.ntmps122;go_wp2_with fail;refine(whole_any A n cap l w h hc (by omega)).mono ?_;rw[HWH.out];rintro e w1⟨rfl,hb1⟩;go_wp2_with fail;go_loopw [4,5,13] (fun sm q s wr=>∃(i sum:Nat) (st:List (Nat×Nat)) (cur:F) (fs:List F) (A1:Option Addr) (n1 c1:Nat),i≤n∧s=.int .i64 i∧sm=.int .i64 sum∧q=.slice A1 n1 c1∧OwnP wr w.heap.size A1 n1 c1 st∧InvP st cur fs ∧
  cur.flat++flats fs=l.drop i∧min 4097 (sum+rem st cur fs)=min 4097 T∧sum≤4096∧Below w.heap.size w wr∧n1≤i) (fun _ _ s _=>n - (intOf s).toNat)
 case atStart=>exact⟨0,0,[],f0,[],none,0,0,by omega,rfl,rfl,rfl,OwnP.nil _ _,I1.out,I2.out,by rw[I3.out,Nat.zero_add],by omega,hb1,by omega⟩
 obtain⟨i,sum,st,cur,fs,A1,n1,c1,hi,rfl,rfl,rfl,hp,hv,hrest,hsum,hs2,hb,hn1⟩:=hrel;have HV:=hid hv;have HR:=hid hrest;have HS:=hid hsum;clear hv hrest hsum;by_cases hlt:i < n
 ·obtain⟨ad,x,rfl,_,hx,hin,c0,c1',c2⟩:=(h.on hb).at_ hlt;have hdr:=drop_cons hx;have hlow:=InvP.low HV.out HR.out 1048577 (by rw[List.length_drop,h.len];omega);obtain⟨hf,cur',fs',j1,j2,j3,j4⟩:=Tab.step HV.out (HR.out.trans hdr);obtain⟨hT1,hT2⟩:=InvP.times HV.out;obtain⟨xk,xp,xn⟩:=x;have hz2:xn≤9223372036854775807:=hin.2.2.2;have hz1:1≤xn:=fine_one hf;have HF:=hid hf;have J1:=hid j1;have J2:=hid j2;have J3:=hid j3;have HLOW:=hid hlow;clear hf j1 j2 j3 j4 hdr hx hin hlow;obtain⟨N,rfl⟩:=Int.eq_ofNat_of_zero_le (show 0≤xn by omega);generalize hTd:times st=t at hT1 hT2;have HT:=hid hTd;clear hTd;by_cases hk:kn ⟨xk,xp,N⟩=0
  ·have hkz:=kn_kz HF.out hk;have HKZ:=hid hkz;have HK:=hid hk;clear hkz hk;go_wp2_with fail;refine(kids1_any _ _ _ _).mono ?_;rw[HKZ.out];rintro e w2⟨rfl,hb2⟩;obtain⟨d0,d1,d2⟩:=new_nd hb2;go_wp2_with fail;have hb2':=(bl1 wr _).trans (hb2.mono (by simp));have hp2:OwnP w2 w.heap.size A1 n1 c1 st:=hp.keep fun b _ hlt=>hb2'.block b hlt;have hp2d:∀ q,OwnP (w2.drewN q) w.heap.size A1 n1 c1 st:=fun _=>hp2;have hbw:=hb.trans (hb2'.mono hb.size);have hbd:∀ q,Below w.heap.size w (w2.drewN q):=fun q=>⟨hbw.os,hbw.tape,hbw.output,hbw.size,hbw.block⟩;have hBs:=hbw.size;have HPD:=hid hp2d;have HBD:=hid hbd;clear hp2d hbd hbw;have hH:=hold_le N t;have hH1:=hold_pos (a:=N) (b:=t) (by omega) hT1;generalize hHd:hold N t=H at hH hH1;have HH:=hid hHd;clear hHd;have hwr:IntKind.i64.wrap ((sum:Int)+(H:Int))=(sum:Int)+(H:Int):=IntWalk.i64_in _ (by omega);have hN1:1≤N:=by omega
   have hN2:N≤9223372036854775807:=by omega
   go_quiet ((first | (go_at_call 133;exact Calls.quiet_of_same (times_q w.heap.size A1 n1 c1 st _ t HT.out hp2 (by omega))) | (go_at_call 132;exact Calls.quiet_of_same (held_q N t H _ hN1 hT1 hT2 hN2 HH.out))));clear hwr;by_cases hs3:sum+H≤4096
   ·have hs3':(sum:Int)+(H:Int)≤4096:=by omega
    go_wp2_with fail;refine(behind_any w.heap.size A1 n1 c1 st xk xp (N:Int) _ (HPD.out _) hBs (by omega) HF.out hz2 (by rw[HT.out];exact hT1) (by rw[HT.out];exact hT2) (fun e he=>by have:=HLOW.out e he;omega)).mono ?_;rintro e w3⟨A3,n3,c3,rfl,hp3,hb3⟩;have hn3:n3≤i+1:=by
     have h1:=hp3.1;have h2:=behind_len st ⟨xk,xp,(N:Int)⟩;have h3:=hp.1;omega
    have hbb:Below w.heap.size w w3:=(HBD.out _).trans hb3;go_wp2_with fail;go_roundw
    case rel=>exact⟨i+1,sum+H,_,cur',fs',A3,n3,c3,by omega,by go_num,by go_num,rfl,hp3,J1.out,J2.out.symm,by have:=J3.out sum;rw[if_pos HK.out,HT.out] at this;have h2:=HH.out;rw[show ((N:Int)).toNat=N from rfl,h2] at this;exact this.trans HS.out,hs3,hbb,hn3⟩
    simp[intOf];omega
   have hs3':¬ (sum:Int)+(H:Int)≤4096:=by omega
   go_wp2_with fail;go_ret2;have e4:4096 < T:=by have:=J3.out sum;rw[if_pos HK.out,HT.out] at this;have h1:=HS.out;have h2:=HH.out;rw[show ((N:Int)).toNat=N from rfl,h2] at this;omega
   exact Len.mk (by unfold lv;rw[if_neg (by omega)]) (by unfold lb;exact decide_eq_false (by omega)) (HBD.out _)
  obtain⟨K,hkz,hK0⟩:=kn_kz' HF.out hk;have HKZ:=hid hkz;have HK:=hid hk;have hK1:¬ (K:Int)=0:=by omega
  have hs3':¬ (4096:Int) < (sum:Int):=by omega
  clear hkz hk;go_wp2_with fail;refine(kids1_any _ _ _ _).mono ?_;rw[HKZ.out];rintro e w2⟨rfl,hb2⟩;obtain⟨d0,d1,d2⟩:=new_nd hb2;have hb2':=(bl1 wr _).trans (hb2.mono (by simp));have hp2:OwnP w2 w.heap.size A1 n1 c1 st:=hp.keep fun b _ hlt=>hb2'.block b hlt;have hbw:=hb.trans (hb2'.mono hb.size);have hBs:=hbw.size;go_wp2_with fail;refine(behind_any w.heap.size A1 n1 c1 st xk xp (N:Int) _ hp2 hBs (by omega) HF.out hz2 (by rw[HT.out];exact hT1) (by rw[HT.out];exact hT2) (fun e he=>by have:=HLOW.out e he;omega)).mono ?_;rintro e w3⟨A3,n3,c3,rfl,hp3,hb3⟩;have hn3:n3≤i+1:=by
   have h1:=hp3.1;have h2:=behind_len st ⟨xk,xp,(N:Int)⟩;have h3:=hp.1;omega
  go_wp2_with fail;go_roundw
  case rel=>exact⟨i+1,sum,_,cur',fs',A3,n3,c3,by omega,by go_num,by go_num,rfl,hp3,J1.out,J2.out.symm,by have:=J3.out sum;rw[if_neg HK.out,Nat.add_zero] at this;exact this.trans HS.out,hs2,hbw.trans hb3,hn3⟩
  simp[intOf];omega
 have hge:n≤i:=by omega
 obtain⟨r0,r1⟩:=InvP.done HV.out (by rw[HR.out];exact List.drop_eq_nil_of_le (by rw[h.len];exact hge));have e4:=HS.out;rw[r0] at e4;have e5:sum=T:=by omega
 have E5:=hid e5;clear r0 r1 e4 e5;go_wp2_with fail;go_ret2;exact Len.mk (by have:=E5.out;unfold lv;rw[if_pos (by omega),this]) (by have:=E5.out;unfold lb;exact decide_eq_true (by omega)) hb
theorem length_none(A:Option Addr)(n cap:Nat)(l:List Nd)(w:World)(h:RdN w w.heap.size A n l)(hc:n≤cap)(hn:n≤1048576)(hw:wholeB l=false):
  Calls Tryz.prog 122 #[.slice A n cap] w (Len 4097 w):=by
 have HW:=hid hw;clear hw;go_enter Tryz.func122,Tryz.ntmps122;go_wp2_with fail;refine(whole_any A n cap l w h hc (by omega)).mono ?_;rw[HW.out];rintro e w1⟨rfl,hb1⟩;go_wp2_with fail;go_ret2;exact Len.mk rfl rfl hb1
theorem depth_tree(A:Option Addr)(n cap:Nat)(l:List Nd)(x0:Nd)(k0:F)(w:World)(h:RdN w w.heap.size A n l)(hc:n≤cap)(hn:n≤1048576)(hok:(F.cons x0 k0 .nil).ok)(hl:l=x0::k0.flat):
  Calls Tryz.prog 121 #[.slice A n cap] w (Ans (.int .i64 (k0.dep+1:Nat)) w):=by
 have hwh:wholeB l=true:=by rw[hl];exact tree_whole hok
 obtain⟨i1,i2,i3,i4⟩:=InvP.start hok rfl;have e1:(F.cons x0 k0 .nil).flat=l:=by rw[hl];simp[F.flat]
 have e2:(F.cons x0 k0 .nil).dep=k0.dep+1:=by simp[F.dep]
 have i2:=i2.trans e1;rw[e2] at i4;have hD:k0.dep+1≤n:=by
  have:=F.dep_le_sz k0;have h1:=h.len;rw[hl] at h1;simp only[List.length_cons,F.flat_length] at h1;omega
 generalize k0.dep+1=D at i4 hD ⊢;generalize (F.cons x0 k0 .nil)=f0 at i1 i2 i4;have I1:=hid i1;have I2:=hid i2;have I4:=hid i4;have HWH:=hid hwh;clear i1 i2 i3 i4 hwh hok hl e1 e2;go_enter Tryz.func121,Tryz.ntmps121;go_wp2_with fail;refine(whole_any A n cap l w h hc (by omega)).mono ?_;rw[HWH.out];rintro e w1⟨rfl,hb1⟩;go_wp2_with fail;go_loopw [3,4,12] (fun sm q s wr=>∃(i d:Nat) (st:List (Nat×Nat)) (cur:F) (fs:List F) (A1:Option Addr) (n1 c1:Nat),i≤n∧s=.int .i64 i∧sm=.int .i64 d∧q=.slice A1 n1 c1∧OwnP wr w.heap.size A1 n1 c1 st∧InvP st cur fs ∧
  cur.flat++flats fs=l.drop i∧max d (deepR st cur fs)=D∧Below w.heap.size w wr∧n1≤i) (fun _ _ s _=>n - (intOf s).toNat)
 case atStart=>exact⟨0,0,[],f0,[],none,0,0,by omega,rfl,rfl,rfl,OwnP.nil _ _,I1.out,I2.out,by rw[I4.out];omega,hb1,by omega⟩
 obtain⟨i,d,st,cur,fs,A1,n1,c1,hi,rfl,rfl,rfl,hp,hv,hrest,hsum,hb,hn1⟩:=hrel;have hd:d≤D:=by omega
 have HV:=hid hv;have HR:=hid hrest;have HS:=hid hsum;clear hv hrest hsum;by_cases hlt:i < n
 ·obtain⟨ad,x,rfl,_,hx,hin,c0,c1',c2⟩:=(h.on hb).at_ hlt;have hdr:=drop_cons hx;have hlow:=InvP.low HV.out HR.out 1048577 (by rw[List.length_drop,h.len];omega);have hge:=deep_ge HV.out (HR.out.trans hdr);obtain⟨hf,cur',fs',j1,j2,j3,j4⟩:=Tab.step HV.out (HR.out.trans hdr);obtain⟨hT1,hT2⟩:=InvP.times HV.out;obtain⟨xk,xp,xn⟩:=x;have hz2:xn≤9223372036854775807:=hin.2.2.2;have hj:max (max d (n1+1)) (deepR (behind st ⟨xk,xp,xn⟩) cur' fs')=D:=by
   have h1:=hp.1;have h2:=HS.out;rw[h1];omega
  have HF:=hid hf;have J1:=hid j1;have J2:=hid j2;have J4:=hid hj;have HLOW:=hid hlow;clear hf j1 j2 j3 j4 hdr hx hin hlow hge hj;have hBs:=hb.size;have hb2':=bl1 wr (.cells #[.int .i64 xk,.int .i64 xp,.int .i64 xn] 70);have hp2:OwnP (wr.alloc (.cells #[.int .i64 xk,.int .i64 xp,.int .i64 xn] 70)) w.heap.size A1 n1 c1 st:=hp.keep fun b _ hlt=>hb2'.block b hlt;have hbw:=hb.trans (hb2'.mono hb.size);go_wp2_with fail
  all_goals
   refine(behind_any w.heap.size A1 n1 c1 st xk xp xn _ hp2 hbw.size (by omega) HF.out hz2 hT1 hT2 (fun e he=>by have:=HLOW.out e he;omega)).mono ?_;rintro e w3⟨A3,n3,c3,rfl,hp3,hb3⟩;have hn3:n3≤i+1:=by
    have h1:=hp3.1;have h2:=behind_len st ⟨xk,xp,xn⟩;have h3:=hp.1;omega
   go_wp2_with fail;go_roundw
   case rel=>exact⟨i+1,max d (n1+1),_,cur',fs',A3,n3,c3,by omega,by go_num,ret_num (by omega),rfl,hp3,J1.out,J2.out.symm,J4.out,hbw.trans hb3,hn3⟩
   simp[intOf];omega
 have hge:n≤i:=by omega
 obtain⟨r0,r1⟩:=InvP.done HV.out (by rw[HR.out];exact List.drop_eq_nil_of_le (by rw[h.len];exact hge));have e4:=HS.out;rw[r1] at e4;have e5:d=D:=by omega
 have E5:=hid e5;clear r0 r1 e4 e5;go_wp2_with fail;go_ret;exact Ans.mk (by rw[E5.out];rfl) hb
theorem whole_size{l:List Nd}(h:wholeB l=true):0 < l.length∧size l 0=l.length:=by
 unfold wholeB at h;simp only[Bool.and_eq_true,decide_eq_true_eq] at h;exact h
theorem not_whole{l:List Nd}(h:wholeB l=false)(h0:0 < l.length):¬ size l 0=l.length:=fun h1=>by
 unfold wholeB at h
 rw[decide_eq_true h0,decide_eq_true h1] at h
 cases h
theorem rDepth_none(A:Option Addr)(n cap:Nat)(l:List Nd)(w:World)(h:RdN w w.heap.size A n l)(hc:n≤cap)(hn:n≤1048576)(hw:wholeB l=false):
  Calls Tryz.prog 89 #[.slice A n cap] w (Ans (.int .i64 (0:Nat)) w):=by
 by_cases h0:0 < n
 ·have hs:=not_whole hw (by rw[h.len];exact h0);rw[h.len] at hs;generalize hS:size l 0=S at hs;have HS:=hid hS;have hs':((S:Int) == (n:Int))=false:=beq_eq_false_iff_ne.2 (by omega);have hn0:((n:Int) == 0)=false:=beq_eq_false_iff_ne.2 (by omega);clear hS hs hw;go_enter Tryz.func89,Tryz.ntmps89;go_wp2_with fail;refine(rsize_any A n cap l 0 w h hc (by omega)).mono ?_;rw[HS.out];rintro e w1⟨rfl,hb1⟩;go_wp2_with fail
  all_goals
   go_ret;exact Ans.mk rfl hb1
 have hn0:((n:Int) == 0)=true:=beq_iff_eq.2 (by omega);clear hw;go_enter Tryz.func89,Tryz.ntmps89;go_wp2_with fail;go_ret;exact Ans.mk rfl (Below.refl _ _)
theorem rDepth_tree(A:Option Addr)(n cap:Nat)(l:List Nd)(x0:Nd)(k0:F)(w:World)(h:RdN w w.heap.size A n l)(hc:n≤cap)(hn:n≤1048576)(hok:(F.cons x0 k0 .nil).ok)(hl:l=x0::k0.flat):
  Calls Tryz.prog 89 #[.slice A n cap] w (Ans (.int .i64 (k0.dep+1:Nat)) w):=by
 have hw:wholeB l=true:=by rw[hl];exact tree_whole hok
 obtain⟨h0,hs⟩:=whole_size hw;rw[h.len] at h0 hs;have HS:=hid hs;have hd:l.drop 0=(F.cons x0 k0 .nil).flat++[]:=by rw[hl];simp[F.flat]
 have hR:=fun w (h:RdN w w.heap.size A n l)=>rdepth_any A n cap l hc (by omega) (k0.sz+1) 0 x0 k0 .nil [] w (by omega) h hok hd;have HR:=hid hR;have hn0:((n:Int) == 0)=false:=beq_eq_false_iff_ne.2 (by omega);clear hs hw hR hd hl hok;go_enter Tryz.func89,Tryz.ntmps89;go_wp2_with fail;refine(rsize_any A n cap l 0 w h hc (by omega)).mono ?_;rw[HS.out];rintro e w1⟨rfl,hb1⟩;go_wp2_with fail;refine(HR.out w1 (h.on hb1)).mono ?_;rintro e w2⟨rfl,hb2⟩;go_wp2_with fail;go_ret;exact Ans.mk rfl (hb1.trans (hb2.mono hb1.size))
theorem rLength_tree(A:Option Addr)(n cap:Nat)(l:List Nd)(x0:Nd)(k0:F)(w:World)(h:RdN w w.heap.size A n l)(hc:n≤cap)(hn:n≤1048576)(hok:(F.cons x0 k0 .nil).ok)(hl:l=x0::k0.flat):
  Calls Tryz.prog 90 #[.slice A n cap] w (Len (F.tick x0 k0.len) w):=by
 have hD:=fun w (h:RdN w w.heap.size A n l)=>rDepth_tree A n cap l x0 k0 w h hc hn hok hl;have hd:l.drop 0=(F.cons x0 k0 .nil).flat++[]:=by rw[hl];simp[F.flat]
 have hR:=fun w (h:RdN w w.heap.size A n l)=>rlength_any A n cap l hc (by omega) (k0.sz+1) 0 x0 k0 .nil [] w (by omega) h hok hd;have HD:=hid hD;have HR:=hid hR;clear hD hR hd hl hok;have hd0:(((k0.dep+1:Nat):Int) == 0)=false:=beq_eq_false_iff_ne.2 (by omega);generalize k0.dep+1=D at HD hd0;generalize F.tick x0 k0.len=T at HR ⊢;generalize hHd:hl4 T=H at HR;have hh:H=min T 4097:=by rw[← hHd];rfl
 clear hHd;by_cases hT:T≤4096
 ·obtain rfl:H=T:=by omega
  clear hh;go_enter Tryz.func90,Tryz.ntmps90;go_wp2_with fail;refine(HD.out w h).mono ?_;rintro e w1⟨rfl,hb1⟩;go_wp2_with fail;refine(HR.out w1 (h.on hb1)).mono ?_;rintro e w2⟨rfl,hb2⟩;go_wp2_with fail;go_ret2;exact Len.mk (by unfold lv;rw[if_pos hT]) (by unfold lb;exact decide_eq_true hT) (hb1.trans (hb2.mono hb1.size))
 obtain rfl:H=4097:=by omega
 clear hh;go_enter Tryz.func90,Tryz.ntmps90;go_wp2_with fail;refine(HD.out w h).mono ?_;rintro e w1⟨rfl,hb1⟩;go_wp2_with fail;refine(HR.out w1 (h.on hb1)).mono ?_;rintro e w2⟨rfl,hb2⟩;go_wp2_with fail;go_ret2;exact Len.mk (by unfold lv;rw[if_neg hT]) (by unfold lb;exact decide_eq_false hT) (hb1.trans (hb2.mono hb1.size))
def rt(n D T:Nat):Int:=if 128 < n then 3 else if 16 < D then 14 else if 4096 < T then 18 else 0
def rn(n:Nat):Int:=if 128 < n then 3 else 12
theorem right_none(A:Option Addr)(n cap:Nat)(l:List Nd)(w:World)(h:RdN w w.heap.size A n l)(hc:n≤cap)(hn:n≤1048576)(hw:wholeB l=false):
  Calls Tryz.prog 114 #[.slice A n cap] w (Ans (.int .i64 (rn n)) w):=by
 have HW:=hid hw;clear hw;by_cases h1:128 < n
 ·have HE:Hid (rn n=3):=hid (if_pos h1);have h1':(128:Int) < (n:Int):=by omega
  go_enter Tryz.func114,Tryz.ntmps114;go_wp2_with fail;go_ret;exact Ans.mk (by rw[HE.out];rfl) (Below.refl _ _)
 have HE:Hid (rn n=12):=hid (if_neg h1);have h1':¬ (128:Int) < (n:Int):=by omega
 go_enter Tryz.func114,Tryz.ntmps114;go_wp2_with fail;refine(whole_any A n cap l w h hc (by omega)).mono ?_;rw[HW.out];rintro e w1⟨rfl,hb1⟩;go_wp2_with fail;go_ret;exact Ans.mk (by rw[HE.out];rfl) hb1
theorem rright_none(A:Option Addr)(n cap:Nat)(l:List Nd)(w:World)(h:RdN w w.heap.size A n l)(hc:n≤cap)(hn:n≤1048576)(hw:wholeB l=false):
  Calls Tryz.prog 65 #[.slice A n cap] w (Ans (.int .i64 (rn n)) w):=by
 have HW:=hid hw;clear hw;by_cases h1:128 < n
 ·have HE:Hid (rn n=3):=hid (if_pos h1);have h1':(128:Int) < (n:Int):=by omega
  go_enter Tryz.func65,Tryz.ntmps65;go_wp2_with fail;go_ret;exact Ans.mk (by rw[HE.out];rfl) (Below.refl _ _)
 have HE:Hid (rn n=12):=hid (if_neg h1);have h1':¬ (128:Int) < (n:Int):=by omega
 go_enter Tryz.func65,Tryz.ntmps65;go_wp2_with fail;refine(rDepth_none A n cap l w h hc hn HW.out).mono ?_;rintro e w1⟨rfl,hb1⟩;go_wp2_with fail;go_ret;exact Ans.mk (by rw[HE.out];rfl) hb1
theorem right_tree(A:Option Addr)(n cap:Nat)(l:List Nd)(x0:Nd)(k0:F)(w:World)(h:RdN w w.heap.size A n l)(hc:n≤cap)(hn:n≤1048576)(hok:(F.cons x0 k0 .nil).ok)(hl:l=x0::k0.flat):
  Calls Tryz.prog 114 #[.slice A n cap] w (Ans (.int .i64 (rt n (k0.dep+1) (F.tick x0 k0.len))) w):=by
 have hwh:wholeB l=true:=by rw[hl];exact tree_whole hok
 have HWH:=hid hwh;have HD:=hid fun w (h:RdN w w.heap.size A n l)=>depth_tree A n cap l x0 k0 w h hc hn hok hl;have HL:=hid fun w (h:RdN w w.heap.size A n l)=>length_tree A n cap l x0 k0 w h hc hn hok hl;clear hwh hok hl;generalize k0.dep+1=D at HD ⊢;generalize F.tick x0 k0.len=T at HL ⊢;by_cases h1:128 < n
 ·have HE:Hid (rt n D T=3):=hid (if_pos h1);have h1':(128:Int) < (n:Int):=by omega
  go_enter Tryz.func114,Tryz.ntmps114;go_wp2_with fail;go_ret;exact Ans.mk (by rw[HE.out];rfl) (Below.refl _ _)
 have h1':¬ (128:Int) < (n:Int):=by omega
 by_cases h2:16 < D
 ·have HE:Hid (rt n D T=14):=hid (by unfold rt;rw[if_neg h1,if_pos h2]);have h2':(16:Int) < (D:Int):=by omega
  go_enter Tryz.func114,Tryz.ntmps114;go_wp2_with fail;refine(whole_any A n cap l w h hc (by omega)).mono ?_;rw[HWH.out];rintro e w1⟨rfl,hb1⟩;go_wp2_with fail;refine(HD.out w1 (h.on hb1)).mono ?_;rintro e w2⟨rfl,hb2⟩;have k2:=hb1.trans (hb2.mono hb1.size);go_wp2_with fail;go_ret;exact Ans.mk (by rw[HE.out];rfl) k2
 have h2':¬ (16:Int) < (D:Int):=by omega
 by_cases h3:4096 < T
 ·have HE:Hid (rt n D T=18):=hid (by unfold rt;rw[if_neg h1,if_neg h2,if_pos h3]);have hB:lb T=false:=by unfold lb;exact decide_eq_false (by omega)
  have HB:=hid hB;clear hB;go_enter Tryz.func114,Tryz.ntmps114;go_wp2_with fail;refine(whole_any A n cap l w h hc (by omega)).mono ?_;rw[HWH.out];rintro e w1⟨rfl,hb1⟩;go_wp2_with fail;refine(HD.out w1 (h.on hb1)).mono ?_;rintro e w2⟨rfl,hb2⟩;have k2:=hb1.trans (hb2.mono hb1.size);go_wp2_with fail;refine(HL.out w2 (h.on k2)).mono ?_;unfold Len;rw[HB.out];rintro e w3⟨rfl,hb3⟩;have k3:=k2.trans (hb3.mono k2.size);go_wp2_with fail;go_ret;exact Ans.mk (by rw[HE.out];rfl) k3
 have HE:Hid (rt n D T=0):=hid (by unfold rt;rw[if_neg h1,if_neg h2,if_neg h3]);have hB:lb T=true:=by unfold lb;exact decide_eq_true (by omega)
 have HB:=hid hB;clear hB;go_enter Tryz.func114,Tryz.ntmps114;go_wp2_with fail;refine(whole_any A n cap l w h hc (by omega)).mono ?_;rw[HWH.out];rintro e w1⟨rfl,hb1⟩;go_wp2_with fail;refine(HD.out w1 (h.on hb1)).mono ?_;rintro e w2⟨rfl,hb2⟩;have k2:=hb1.trans (hb2.mono hb1.size);go_wp2_with fail;refine(HL.out w2 (h.on k2)).mono ?_;unfold Len;rw[HB.out];rintro e w3⟨rfl,hb3⟩;have k3:=k2.trans (hb3.mono k2.size);go_wp2_with fail;go_ret;exact Ans.mk (by rw[HE.out];rfl) k3
theorem rright_tree(A:Option Addr)(n cap:Nat)(l:List Nd)(x0:Nd)(k0:F)(w:World)(h:RdN w w.heap.size A n l)(hc:n≤cap)(hn:n≤1048576)(hok:(F.cons x0 k0 .nil).ok)(hl:l=x0::k0.flat):
  Calls Tryz.prog 65 #[.slice A n cap] w (Ans (.int .i64 (rt n (k0.dep+1) (F.tick x0 k0.len))) w):=by
 have hwh:wholeB l=true:=by rw[hl];exact tree_whole hok
 have HWH:=hid hwh;have HD:=hid fun w (h:RdN w w.heap.size A n l)=>rDepth_tree A n cap l x0 k0 w h hc hn hok hl;have HL:=hid fun w (h:RdN w w.heap.size A n l)=>rLength_tree A n cap l x0 k0 w h hc hn hok hl;clear hwh hok hl;have hd0:(((k0.dep+1:Nat):Int) == 0)=false:=beq_eq_false_iff_ne.2 (by omega);generalize k0.dep+1=D at HD hd0 ⊢;generalize F.tick x0 k0.len=T at HL ⊢;by_cases h1:128 < n
 ·have HE:Hid (rt n D T=3):=hid (if_pos h1);have h1':(128:Int) < (n:Int):=by omega
  go_enter Tryz.func65,Tryz.ntmps65;go_wp2_with fail;go_ret;exact Ans.mk (by rw[HE.out];rfl) (Below.refl _ _)
 have h1':¬ (128:Int) < (n:Int):=by omega
 by_cases h2:16 < D
 ·have HE:Hid (rt n D T=14):=hid (by unfold rt;rw[if_neg h1,if_pos h2]);have h2':(16:Int) < (D:Int):=by omega
  go_enter Tryz.func65,Tryz.ntmps65;go_wp2_with fail;refine(HD.out w h).mono ?_;rintro e w1⟨rfl,hb1⟩;go_wp2_with fail;refine(HD.out w1 (h.on hb1)).mono ?_;rintro e w2⟨rfl,hb2⟩;have k2:=hb1.trans (hb2.mono hb1.size);go_wp2_with fail;go_ret;exact Ans.mk (by rw[HE.out];rfl) k2
 have h2':¬ (16:Int) < (D:Int):=by omega
 by_cases h3:4096 < T
 ·have HE:Hid (rt n D T=18):=hid (by unfold rt;rw[if_neg h1,if_neg h2,if_pos h3]);have hB:lb T=false:=by unfold lb;exact decide_eq_false (by omega)
  have HB:=hid hB;clear hB;go_enter Tryz.func65,Tryz.ntmps65;go_wp2_with fail;refine(HD.out w h).mono ?_;rintro e w1⟨rfl,hb1⟩;go_wp2_with fail;refine(HD.out w1 (h.on hb1)).mono ?_;rintro e w2⟨rfl,hb2⟩;have k2:=hb1.trans (hb2.mono hb1.size);go_wp2_with fail;refine(HL.out w2 (h.on k2)).mono ?_;unfold Len;rw[HB.out];rintro e w3⟨rfl,hb3⟩;have k3:=k2.trans (hb3.mono k2.size);go_wp2_with fail;go_ret;exact Ans.mk (by rw[HE.out];rfl) k3
 have HE:Hid (rt n D T=0):=hid (by unfold rt;rw[if_neg h1,if_neg h2,if_neg h3]);have hB:lb T=true:=by unfold lb;exact decide_eq_true (by omega)
 have HB:=hid hB;clear hB;go_enter Tryz.func65,Tryz.ntmps65;go_wp2_with fail;refine(HD.out w h).mono ?_;rintro e w1⟨rfl,hb1⟩;go_wp2_with fail;refine(HD.out w1 (h.on hb1)).mono ?_;rintro e w2⟨rfl,hb2⟩;have k2:=hb1.trans (hb2.mono hb1.size);go_wp2_with fail;refine(HL.out w2 (h.on k2)).mono ?_;unfold Len;rw[HB.out];rintro e w3⟨rfl,hb3⟩;have k3:=k2.trans (hb3.mono k2.size);go_wp2_with fail;go_ret;exact Ans.mk (by rw[HE.out];rfl) k3
end Go.Proofs.YtdkngfdnfekgfaaGreat
