import Derived.Test.YtdkngfdnfekgfaaGreatLon6
set_option maxHeartbeats 3200000
set_option maxRecDepth 100000
set_option linter.unusedSimpArgs false
set_option linter.unusedVariables false
namespace Go.Proofs.YtdkngfdnfekgfaaGreat
open Go.RowKit Tab
def MadeJ(l:List Int)(w:World)(e:Ending)(w':World):Prop:=∃ A n c,e=.returned (.slice A n c)∧RdI w' w'.heap.size A n l∧n≤c∧Below w.heap.size w w'∧∀ ad,A=some ad→w.heap.size≤ad.block
theorem OwnV.newer{E s:Nat}{w:World}{B n c:Nat}{A:Option Addr}{l:List Value}(h:OwnV E s w B A n c l):∀ ad,A=some ad→B≤ad.block:=fun ad e=>by
 rcases h.2 with ⟨hv,_⟩ | ⟨g,cap,cur,hv,hbg,_⟩
 ·injection hv with h1;rw[e] at h1;cases h1
 ·injection hv with h1;rw[e] at h1;injection h1 with h1;rw[h1];exact hbg
theorem MadeJ.mk{l:List Int}{w w':World}{A:Option Addr}{n c:Nat}(h:OwnV 3 1 w' w.heap.size A n c (is l))(hb:Below w.heap.size w w'):MadeJ l w (.returned (.slice A n c)) w' :=
 ⟨A,n,c,rfl,⟨by have:=h.len;rw[is_length] at this;omega,h.rd⟩,h.cap,hb,h.newer⟩
theorem madeJ_nil(w w':World)(hb:Below w.heap.size w w'):MadeJ [] w (.returned (.slice none 0 0)) w':=⟨none,0,0,rfl,⟨rfl,RdV.nil⟩,Nat.le_refl _,hb,fun _ h=>by cases h⟩
theorem kids_tree{l:List Nd}{a:Nat}(h:size l (a:Int)≠0):∃ m,kids l (a:Int)=plc l (a+1) m∧m≤128∧∀ j,j≤m→pos l (a+1) j≤a+size l (a:Int)∧(j < m→pos l (a+1) j < a+size l (a:Int))∧(j=m→pos l (a+1) j=a+size l (a:Int)):=by
 obtain⟨x,k,t,hok,_,h2,h3,h4⟩:=size_tree h;rw[Int.toNat_natCast] at h3;have hd:l.drop (a+1)=k.flat++t:=by
  rw[← List.drop_drop,h3];rfl
 refine⟨kn x,?_,kn_le hok.1,fun j hj=>?_⟩
 ·unfold kids;have:(l.drop a)[0]? = some x:=by rw[h3];rfl
  have hx:l[a]? = some x:=by simpa using this
  rw[if_neg h,Int.toNat_natCast,hx];rfl
 obtain⟨_,h5,_,_⟩:=pos_dr hok.2.2.1 hd (by omega) j (by rw[hok.2.1];exact hj);have h6:=dr_cnt k j;have h7:=F.cnt_le_sz (F.dr j k);rw[hok.2.1] at h6;refine⟨by omega,fun hlt=>by omega,fun he=>?_⟩;have h8:F.dr j k=.nil:=F.cnt_zero (by omega);rw[h8] at h5;simp only[F.sz] at h5;omega
theorem rkids_in(A:Option Addr)(n cap:Nat)(l:List Nd)(a:Nat)(w:World)(h:RdN w w.heap.size A n l)(hc:n≤cap)(hn:n≤1099511627776)(ha:a < n)(hs:size l (a:Int)≠0):
  Calls Tryz.prog 111 #[.slice A n cap,.int .i64 a] w (MadeJ (kids l a) w):=by
 obtain⟨m,hkd,hm,hpos⟩:=kids_tree hs;rw[hkd];have hfit:a+size l (a:Int)≤n:=by
  obtain⟨_,h1,_⟩:=hpos m (Nat.le_refl _);obtain⟨x,hx,_,h2⟩:=pos_fit hs;obtain⟨x',k,t,hok,_,h3,h4,h5⟩:=size_tree hs;rw[Int.toNat_natCast] at h4;have:=congrArg List.length h4;rw[List.length_drop,List.length_cons,List.length_append,F.flat_length] at this;have:=h.len;omega
 clear hkd;generalize hSd:size l (a:Int)=S at hs hfit hpos;have HSD:=hid hSd;have HP:=hid hpos;clear hSd hpos hs;have hca:¬ cap=a:=by omega
 go_enter Tryz.func111,Tryz.ntmps111;go_wp2_with fail;refine(rsize_any A n cap l a w h hc hn).mono ?_;rw[HSD.out];rintro e w1⟨rfl,hb1⟩;go_wp2_with fail;go_loopw [6,7] (fun o s wr=>∃(i c:Nat) (Ao:Option Addr),i≤m∧s=.int .i64 (pos l (a+1) i:Nat)∧o=.slice Ao i c∧OwnV 3 1 wr w.heap.size Ao i c (is (plc l (a+1) i))∧Below w.heap.size w wr) (fun o _ _=>m - lenOf o)
 case atStart=>exact⟨0,0,none,by omega,ret_num (by simp[pos]),rfl,OwnV.nil _ _ _ _,hb1⟩
 obtain⟨i,c,Ao,hi,rfl,rfl,hw,hb⟩:=hrel;by_cases hlt:i < m
 ·obtain⟨_,hp1,_⟩:=HP.out i hi;have hp1:=hp1 hlt;have hp2:pos l (a+1) i+size l (pos l (a+1) i:Nat)≤a+S:=(HP.out (i+1) (by omega)).1;have HPS:Hid (pos l (a+1) (i+1)=pos l (a+1) i+size l (pos l (a+1) i:Nat)):=hid rfl;have HPL:=hid (plc_succ l (a+1) i);generalize hPd:pos l (a+1) i=P at hp1 hp2 HPS HPL ⊢;have HPD:=hid hPd;clear hPd;have hlt2:decide ((P:Int) < (a:Int)+(S:Int))=true:=by simp;omega
  have hbs:=hb.alloc hb.size (.cells #[.int .i64 (P:Int)] 3);have hw':=OwnV.below hw rfl (bl1 wr (.cells #[.int .i64 (P:Int)] 3));have hrd:=rdV_new wr #[.int .i64 (P:Int)] 3 (is [(P:Int)]) rfl;go_wp2_with (at_builtin;go_loud (refine wpList_appV elI rfl (.tmp 23) (.tmp 25) rfl rfl w.heap.size Ao i c _ rfl hw' _ 1 1 _ _ rfl hrd rfl (is_one _) (by omega) (by unfold maxLen;omega) hbs.size (i+1) rfl (is (plc l (a+1) (i+1))) (by rw[HPL.out,is_append]) ?_;intro A2 c2 w2 hw2 hb2 _));have k2:=hbs.trans hb2;refine(rsize_any A n cap l (P:Int) _ (h.on k2) hc hn).mono ?_;generalize size l (P:Int)=Z at HPS hp2 ⊢;rintro e w4⟨rfl,hb4⟩;go_wp2_with fail;go_roundw
  case rel=>exact⟨i+1,c2,A2,by omega,ret_num (by rw[HPS.out];omega),rfl,hw2.below rfl hb4,k2.trans (hb4.mono k2.size)⟩
  simp[lenOf];omega
 have hge:m≤i:=by omega
 have e:i=m:=by omega
 obtain⟨_,_,hp1⟩:=HP.out i hi;have hp1:=hp1 e;generalize pos l (a+1) i=P at hp1 ⊢;have hlt2:decide ((P:Int) < (a:Int)+(S:Int))=false:=by simp;omega
 have HPD:=hid hp1;have HE:=hid e;clear hp1 e;go_wp2_with fail;go_ret;have e:=HE.out;subst e;exact MadeJ.mk hw hb
theorem rkids_out(A:Option Addr)(n cap:Nat)(l:List Nd)(a:Int)(w:World)(h:RdN w w.heap.size A n l)(hc:n≤cap)(hn:n≤1099511627776)(hs:size l a=0)(ha:-9223372036854775808≤a)(ha2:a < 9223372036854775807):
  Calls Tryz.prog 111 #[.slice A n cap,.int .i64 a] w (MadeJ [] w):=by
 have HS:=hid hs;clear hs;have hlt:decide (a+1 < a)=false:=decide_eq_false (by omega);go_enter Tryz.func111,Tryz.ntmps111;go_wp2_with fail;refine(rsize_any A n cap l a w h hc hn).mono ?_;rw[HS.out];rintro e w1⟨rfl,hb1⟩;go_wp2_with fail;go_loopw [6,7] (fun o s wr=>o=.slice none 0 0∧s=.int .i64 (a+1)∧Below w.heap.size w wr) (fun _ _ _=>0)
 case atStart=>exact⟨rfl,rfl,hb1⟩
 obtain⟨rfl,rfl,hb⟩:=hrel;go_wp2_with fail;go_ret;exact madeJ_nil _ _ hb
theorem rkids_new(A:Option Addr)(n cap:Nat)(l:List Nd)(a:Int)(w:World)(h:RdN w w.heap.size A n l)(hc:n≤cap)(hn:n≤1099511627776)(ha:-9223372036854775808≤a)(ha2:a < 9223372036854775807):
  Calls Tryz.prog 111 #[.slice A n cap,.int .i64 a] w (MadeJ (kids l a) w):=by
 by_cases hs:size l a=0
 ·rw[kids_none l a hs];exact rkids_out A n cap l a w h hc hn hs ha ha2
 obtain⟨x,k,t,_,h1,h2,_⟩:=size_tree hs;obtain⟨a',rfl⟩:=Int.eq_ofNat_of_zero_le h1;exact rkids_in A n cap l a' w h hc hn (by have:=h.len;omega) hs
theorem rkids_any(A:Option Addr)(n cap:Nat)(l:List Nd)(a:Int)(w:World)(h:RdN w w.heap.size A n l)(hc:n≤cap)(hn:n≤1099511627776)(ha:-9223372036854775808≤a)(ha2:a < 9223372036854775807):
  Calls Tryz.prog 111 #[.slice A n cap,.int .i64 a] w (MadeI (kids l a) w):=by
 refine(rkids_new A n cap l a w h hc hn ha ha2).mono ?_;rintro e w'⟨A,n,c,h1,h2,h3,h4,_⟩;exact⟨A,n,c,h1,h2,h3,h4⟩
theorem kids_at{l t:List Nd}{p:Nat}{x:Nd}{k r:F}(hok:(F.cons x k r).ok)(hl:l.drop p=(F.cons x k r).flat++t):kids l (p:Int)=plc l (p+1) k.cnt∧p+1+k.sz≤l.length∧l.drop (p+1)=k.flat++(r.flat++t)∧l[p]? = some x:=by
 have hs:=size_at hok hl;have hx:l[p]? = some x:=by
  have:(l.drop p)[0]? = some x:=by rw[hl];rfl
  simpa using this
 have hd:l.drop (p+1)=k.flat++(r.flat++t):=by
  rw[← List.drop_drop,hl];simp[F.flat]
 refine⟨?_,?_,hd,hx⟩
 ·unfold kids;rw[if_neg (by omega),Int.toNat_natCast,hx,hok.2.1];rfl
 have:=congrArg List.length hl;rw[List.length_drop,List.length_append,F.flat_length] at this;simp only[F.sz] at this;omega
theorem plc_get(l:List Nd)(p m i:Nat)(h:i < m):(plc l p m)[i]? = some (pos l p i:Int):=by
 simp[plc,h]
theorem rdepth_any(A:Option Addr)(n cap:Nat)(l:List Nd)(hc:n≤cap)(hn:n≤1099511627776)(M:Nat):∀(p:Nat) (x:Nd) (k r:F) (t:List Nd) (w:World),k.sz < M→RdN w w.heap.size A n l→(F.cons x k r).ok→l.drop p=(F.cons x k r).flat++t →
  Calls Tryz.prog 109 #[.slice A n cap,.int .i64 p] w (Ans (.int .i64 (k.dep+1:Nat)) w):=by
 induction M with
 | zero=>intro p x k r t w h;omega
 | succ M ih =>
  intro p x k r t w hM h hok hl;obtain⟨hk,hfit,hd,hx⟩:=kids_at hok hl;have hlen:=h.len;rw[hlen] at hfit;have hm:k.cnt≤n:=by have:=F.cnt_le_sz k;omega
  have HPD:=hid fun j hj=>pos_dr hok.2.2.1 hd (by omega) j hj;have hkok:=hid hok.2.2.1;generalize hmd:k.cnt=m at hk hm HPD;have hp63:(p:Int)≤1099511627776:=by omega
  have hdz:=F.dep_le_sz k;have HM:=hid hmd;have HK:=hid hk;have HIH:=hid ih;clear hk hmd hl hd hx hlen hok ih;go_enter Tryz.func109,Tryz.ntmps109;go_wp2_with fail;refine(rkids_any A n cap l (p:Int) w h hc hn (by omega) (by omega)).mono ?_;rw[HK.out];rintro e w1⟨A1,n1,c1,rfl,hr1,hc1,hb1⟩;have hn1:n1=m:=by have:=hr1.len;simp[plc] at this;omega
  subst hn1;go_wp2_with fail;go_loopw [5,12] (fun d s wr=>∃(i e:Nat),i≤n1∧s=.int .i64 i∧d=.int .i64 e∧max e (F.dr i k).dep=k.dep∧Below w1.heap.size w1 wr) (fun _ s _=>n1 - (intOf s).toNat)
  case atStart=>exact⟨0,0,by omega,rfl,rfl,by simp[F.dr],Below.refl _ _⟩
  obtain⟨i,e,hi,rfl,rfl,he,hb⟩:=hrel;have HE:=hid he;have he2:e≤k.dep:=by omega
  clear he;by_cases hlt:i < n1
  ·obtain⟨hd,hsz,hp1,hp2⟩:=HPD.out i (by omega);obtain⟨y,ky,r',ed⟩:=dr_cons (f:=k) (j:=i) (by have:=HM.out;omega);have hok':=dr_ok hkok.out i;have ed2:=dr_succ ed;rw[ed] at hd hsz hok';have hky:ky.sz < M:=by simp only[F.sz] at hsz;omega
   have hdep:max e (max (ky.dep+1) r'.dep)=k.dep:=by have:=HE.out;rw[ed] at this;exact this
   have hget:=plc_get l (p+1) n1 i hlt;have HED:=hid ed2;have HDEP:=hid hdep;clear hsz ed ed2;generalize pos l (p+1) i=P at hd hp1 hp2 hget;have hky2:ky.dep+1≤k.dep:=by omega
   obtain⟨adk,z,rfl,_,hz,hcell⟩:=(hr1.on hb).at_ hlt;rw[hget] at hz;injection hz with hz;subst hz;clear hget;have k1:=hb1.trans (hb.mono hb1.size);go_wp2_with fail;refine(HIH.out P y ky r' _ wr hky (h.on k1) hok' hd).mono ?_;rintro e2 w4⟨rfl,hb4⟩;go_wp2_with fail;go_roundw
   case rel=>exact⟨i+1,max e (ky.dep+1),by omega,by go_num,ret_num (by split <;> omega),by rw[HED.out];have:=HDEP.out;omega,hb.trans (hb4.mono hb.size)⟩
   simp[intOf];omega
  have hge:n1≤i:=by omega
  go_wp2_with fail;go_ret;refine Ans.mk (ret_num (b:=(e:Int)+1) ?_) (hb1.trans (hb.mono hb1.size));have e1:=HE.out;have e2:F.dr i k=.nil:=by rw[show i=k.cnt by have:=HM.out;omega];exact dr_all k
  rw[e2] at e1;simp only[F.dep] at e1;omega
def hl4(a:Nat):Nat:=min a 4097
theorem hl4_mul(a b:Nat)(ha:1≤a)(hb:1≤b):hl4 (hl4 a*hl4 b)=hl4 (a*b):=by
 unfold hl4;by_cases h1:a≤4097
 ·rw[Nat.min_eq_left h1];by_cases h2:b≤4097
  ·rw[Nat.min_eq_left h2]
  rw[Nat.min_eq_right (by omega:4097≤b)];have h3:1*4097≤a*4097:=Nat.mul_le_mul_right _ ha;have h4:a*4097≤a*b:=Nat.mul_le_mul_left _ (by omega);omega
 rw[Nat.min_eq_right (by omega:4097≤a)];have h3:4097*1≤4097*min b 4097:=Nat.mul_le_mul_left _ (by omega);have h4:4097*1≤4097*b:=Nat.mul_le_mul_left _ hb;have h5:4097*b≤a*b:=Nat.mul_le_mul_right _ (by omega);omega
theorem rlength_any(A:Option Addr)(n cap:Nat)(l:List Nd)(hc:n≤cap)(hn:n≤1099511627776)(M:Nat):∀(p:Nat) (x:Nd) (k r:F) (t:List Nd) (w:World),k.sz < M→RdN w w.heap.size A n l→(F.cons x k r).ok→l.drop p=(F.cons x k r).flat++t →
  Calls Tryz.prog 110 #[.slice A n cap,.int .i64 p] w (Ans (.int .i64 (hl4 (F.tick x k.len):Nat)) w):=by
 induction M with
 | zero=>intro p x k r t w h;omega
 | succ M ih =>
  intro p x k r t w hM h hok hl;obtain⟨hk,hfit,hd,hx⟩:=kids_at hok hl;have hlen:=h.len;rw[hlen] at hfit;have hm:k.cnt≤n:=by have:=F.cnt_le_sz k;omega
  have HPD:=hid fun j hj=>pos_dr hok.2.2.1 hd (by omega) j hj;have hkok:=hid hok;generalize hmd:k.cnt=m at hk hm HPD;have hp63:(p:Int)≤1099511627776:=by omega
  have hpn:p < n:=by omega
  have HM:=hid hmd;have HK:=hid hk;have HX:=hid hx;have HIH:=hid ih;clear hk hmd hl hd hx hlen hok ih;go_enter Tryz.func110,Tryz.ntmps110;go_wp2_with fail;refine(rkids_any A n cap l (p:Int) w h hc hn (by omega) (by omega)).mono ?_;rw[HK.out];rintro e w1⟨A1,n1,c1,rfl,hr1,hc1,hb1⟩;have hn1:n1=m:=by have:=hr1.len;simp[plc] at this;omega
  subst hn1;go_wp2_with fail;go_loopw [5,12] (fun d s wr=>∃(i e:Nat),i≤n1∧s=.int .i64 i∧d=.int .i64 e∧e≤4097∧hl4 (e+(F.dr i k).len)=hl4 k.len∧Below w1.heap.size w1 wr) (fun _ s _=>n1 - (intOf s).toNat)
  case atStart=>exact⟨0,0,by omega,rfl,rfl,by omega,by simp[F.dr],Below.refl _ _⟩
  obtain⟨i,e,hi,rfl,rfl,he2,he,hb⟩:=hrel;have HE:=hid he;clear he;have k1:=hb1.trans (hb.mono hb1.size);by_cases hlt:i < n1
  ·obtain⟨hd,hsz,hp1,hp2⟩:=HPD.out i (by omega);obtain⟨y,ky,r',ed⟩:=dr_cons (f:=k) (j:=i) (by have:=HM.out;omega);have hok':=dr_ok hkok.out.2.2.1 i;have ed2:=dr_succ ed;rw[ed] at hd hsz hok';have hky:ky.sz < M:=by simp only[F.sz] at hsz;omega
   have hdep:hl4 (e+(F.tick y ky.len+r'.len))=hl4 k.len:=by have:=HE.out;rw[ed] at this;exact this
   have hget:=plc_get l (p+1) n1 i hlt;have HED:=hid ed2;have HDEP:=hid hdep;clear hsz ed ed2 hdep;generalize pos l (p+1) i=P at hd hp1 hp2 hget;obtain⟨adk,z,rfl,_,hz,hcell⟩:=(hr1.on hb).at_ hlt;rw[hget] at hz;injection hz with hz;subst hz;clear hget;have hb4097:hl4 (F.tick y ky.len)≤4097:=by unfold hl4;omega
   go_wp2_with fail;refine(HIH.out P y ky r' _ wr hky (h.on k1) hok' hd).mono ?_;generalize hV:hl4 (F.tick y ky.len)=V at hb4097 ⊢;have HV:=hid hV;clear hV;rintro e2 w4⟨rfl,hb4⟩;go_wp2_with fail;go_roundw
   case rel =>
    refine⟨i+1,min (e+V) 4097,by omega,by go_num,ret_num (by split <;> omega),by omega,?_,hb.trans (hb4.mono hb.size)⟩;rw[HED.out,← HDEP.out];have:=HV.out;unfold hl4 at *;omega
   simp[intOf];omega
  have hge:n1≤i:=by omega
  have e2:F.dr i k=.nil:=by rw[show i=k.cnt by have:=HM.out;omega];exact dr_all k
  have e1:=HE.out;rw[e2] at e1;have e3:e=hl4 k.len:=by simp only[F.len,hl4] at e1 ⊢;omega
  have HE3:=hid e3;clear e1 e2 e3;obtain⟨ad,x',rfl,_,hx',hin,c0,c1,c2⟩:=(h.on k1).at_ hpn;obtain⟨xk,xp,xn⟩:=x';rw[HX.out] at hx';injection hx' with hx';subst hx';have h1n:1≤xn:=fine_one hkok.out.1;have hkc:Hid (k.cnt=kn ⟨xk,xp,xn⟩):=hid hkok.out.2.1;have hkp:Hid k.ok:=hid hkok.out.2.2.1;have hx2:xn≤9223372036854775807:=hin.2.2.2;clear hin hr1;by_cases h3:xk=3
  ·subst h3;go_wp2_with fail;go_ret;refine Ans.mk (ret_num (b:=(e:Int)) ?_) k1;rw[HE3.out];rfl
  by_cases h4:xk=4
  ·subst h4;have hlp:1≤k.len:=F.len_pos hkp.out (by rw[hkc.out];exact Nat.one_pos);have htk:F.tick ⟨4,xp,xn⟩ k.len=k.len*xn.toNat:=rfl;have hfin:∀ z:Nat,z=min xn.toNat 4097→hl4 (e*z)=hl4 (k.len*xn.toNat):=fun z hz=>by
    rw[hz,HE3.out];exact hl4_mul _ _ hlp (by omega)
   have HF:=hid hfin
   have HT:=hid htk;clear hfin htk h3;by_cases hN:4097 < xn
   ·have hpr:(0:Int)≤(e:Int)*4097:=by omega
    go_wp2_with fail
    all_goals
     go_ret;refine Ans.mk ?_ k1;refine ret_num ?_;rw[HT.out,← HF.out 4097 (by omega)];unfold hl4;omega
   obtain⟨N,rfl⟩:=Int.eq_ofNat_of_zero_le (show 0≤xn by omega);have hN2:N≤4097:=by omega
   have h0:e*N≤4097*4097:=Nat.mul_le_mul he2 hN2;have hpr:(0:Int)≤(e:Int)*(N:Int):=Int.mul_nonneg (by omega) (by omega);have hpr2:(e:Int)*(N:Int)≤16785409:=(Int.natCast_mul e N)▸(show ((e*N:Nat):Int)≤16785409 by omega);clear h0;go_wp2_with fail
   all_goals
    go_ret;refine Ans.mk ?_ k1;refine ret_num ?_;rw[HT.out,← HF.out N (by omega)];unfold hl4;rw[← Int.natCast_mul] at *;omega
  have h3':(xk == 3)=false:=beq_eq_false_iff_ne.2 h3;have h4':(xk == 4)=false:=beq_eq_false_iff_ne.2 h4;have htk:F.tick ⟨xk,xp,xn⟩ k.len=xn.toNat:=by unfold F.tick;rw[if_neg h3,if_neg h4]
  have HT:=hid htk;clear htk h3 h4;go_wp2_with fail
  all_goals
   go_ret;refine Ans.mk ?_ k1;refine ret_num ?_;rw[HT.out];unfold hl4;omega
def MoreR(B:Nat)(A0:Option Addr)(L:List Rn)(w:World)(e:Ending)(w':World):Prop:=∃ A c,e=.returned (.slice A L.length c)∧OwnV 114 2 w' B A L.length c (rs L)∧Below B w w'∧Grew A0 A w w'
theorem MoreR.mk{B:Nat}{L L':List Rn}{w w':World}{A0 A:Option Addr}{n c:Nat}(hL:L=L')(hn:n=L.length)(h:OwnV 114 2 w' B A n c (rs L))(hb:Below B w w')(hg:Grew A0 A w w'):MoreR B A0 L' w (.returned (.slice A n c)) w':=by
 subst hL;subst hn;exact⟨A,c,rfl,h,hb,hg⟩
theorem leaf1_any(B:Nat)(A:Option Addr)(n cap:Nat)(l:List Nd)(hc:n≤cap)(hn:n≤1099511627776)(p:Nat)(x:Nd)(w:World)(h:RdN w B A n l)(hx:l[p]? = some x)(hf:fine x=true)(h3:¬ x.k=3)(h4:¬ x.k=4)(hB:B≤w.heap.size)
  (A0:Option Addr) (n0 c0:Nat) (L:List Rn) (hL:L.length=n0) (h0:OwnV 114 2 w B A0 n0 c0 (rs L)) (hs:n0≤1048576) :
  Calls Tryz.prog 91 #[.slice A n cap,.int .i64 p,.slice A0 n0 c0] w (MoreR B A0 (L++[⟨whose x,x.n.toNat⟩]) w):=by
 have hpl:p < n:=by rw[← h.len];exact(List.getElem?_eq_some_iff.1 hx).1
 obtain⟨ad,y,rfl,hab,hy,hin,d0,d1,d2⟩:=h.at_ hpl
 rw[hx] at hy
 injection hy with hy
 subst hy
 obtain⟨xk,xp,xn⟩:=x
 have hn1:=fine_one hf
 have hff:=(fine_iff _ _ _).1 hf
 obtain⟨N,rfl⟩:=Int.eq_ofNat_of_zero_le (show 0≤xn by dsimp only at hn1;omega)
 have hlt0:(p:Int) < (n:Int):=by omega
 have hlt1:0≤(p:Int):=by omega
 dsimp only at h3 h4
 have hk:xk=1∨xk=2:=by omega
 have H0:=hid h0
 have hal:(ad.add (p*3)).block < w.heap.size:=by rw[add_block];omega
 clear h hf hff hx hin h0 h3 h4
 have hfin:∀(v:Int) (A2:Option Addr) (c2:Nat) (w2:World),v=whose ⟨xk,xp,(N:Int)⟩→OwnV 114 2 w2 B A2 (n0+1) c2 (rs (L++[⟨v,N⟩]))→Below B (w.alloc (.cells #[.int .i64 v,.int .i64 (N:Int)] 114)) w2→Grew A0 A2 (w.alloc (.cells #[.int .i64 v,.int .i64 (N:Int)] 114)) w2→MoreR B A0 (L++[⟨whose ⟨xk,xp,(N:Int)⟩,(N:Int).toNat⟩]) w (.returned (.slice A2 (n0+1) c2)) w2:=fun v A2 c2 w2 hv hw hb hg=>by
  refine MoreR.mk (L:=L++[⟨v,N⟩]) (by rw[hv];simp) (by simp[hL]) hw ?_ ((Grew.bel (bl1 w _)).trans hg)
  exact((Below.refl B w).alloc hB _).trans hb
 have HF:=hid hfin
 clear hfin
 rcases hk with rfl | rfl
 ·have hw1:OwnV 114 2 (w.alloc (.cells #[.int .i64 xp,.int .i64 (N:Int)] 114)) B A0 n0 c0 (rs L):=H0.out.below rfl (bl1 w (.cells #[.int .i64 xp,.int .i64 (N:Int)] 114))
  have hr1:=rdV_new w #[.int .i64 xp,.int .i64 (N:Int)] 114 (rs [⟨xp,N⟩]) rfl
  have hB1:B≤(w.alloc (.cells #[.int .i64 xp,.int .i64 (N:Int)] 114)).heap.size:=by simp;omega
  go_enter Tryz.func91,Tryz.ntmps91
  go_wp2_with fail
  go_region_law (refine step_appX elR rfl (.tmp 17) (.tmp 29) rfl rfl B A0 n0 c0 _ rfl hw1 _ 1 1 _ _ rfl hr1 rfl Nat.one_pos (rs_one _) (by omega) (by unfold maxLen;omega) hB1 (n0+1) rfl (rs (L++[⟨xp,N⟩])) (rs_append _ _).symm ?_;intro A2 c2 w2 hw2 hb2 hg2)
  all_goals
   go_wp2_with fail
   go_ret
   exact HF.out xp A2 c2 w2 rfl hw2 ⟨hb2.os,hb2.tape,hb2.output,hb2.size,hb2.block⟩ hg2.drew
 ·have hw1:OwnV 114 2 (w.alloc (.cells #[.int .i64 (-1),.int .i64 (N:Int)] 114)) B A0 n0 c0 (rs L):=H0.out.below rfl (bl1 w (.cells #[.int .i64 (-1),.int .i64 (N:Int)] 114))
  have hr1:=rdV_new w #[.int .i64 (-1),.int .i64 (N:Int)] 114 (rs [⟨-1,N⟩]) rfl
  have hB1:B≤(w.alloc (.cells #[.int .i64 (-1),.int .i64 (N:Int)] 114)).heap.size:=by simp;omega
  go_enter Tryz.func91,Tryz.ntmps91
  go_wp2_with (at_builtin;go_loud (refine wpList_appX elR rfl (.tmp 33) (.tmp 40) rfl rfl B A0 n0 c0 _ rfl hw1 _ 1 1 _ _ rfl hr1 rfl Nat.one_pos (rs_one _) (by omega) (by unfold maxLen;omega) hB1 (n0+1) rfl (rs (L++[⟨-1,N⟩])) (rs_append _ _).symm ?_;intro A2 c2 w2 hw2 hb2 hg2))
  go_ret
  exact HF.out (-1) A2 c2 w2 rfl hw2 hb2 hg2
theorem OwnV.older{E s:Nat}{w:World}{B n c:Nat}{A:Option Addr}{l:List Value}(h:OwnV E s w B A n c l){g:Nat}(e:obk A=some g):g < w.heap.size:=by
 rcases h.2 with ⟨hv,_⟩ | ⟨g',cap,cur,hv,_,hg,_⟩
 ·injection hv with h1;rw[h1] at e;cases e
 injection hv with h1;rw[h1] at e;injection e with e;rw[← e];exact(Array.getElem?_eq_some_iff.1 hg).1
theorem reps_more(i:Nat)(s:List Rn):reps (i+1) s=reps i s++s:=by
 induction i with
 | zero=>simp[reps]
 | succ j ih =>
  have e:reps (j+1) s=s++reps j s:=rfl;have e2:reps (j+1+1) s=s++reps (j+1) s:=rfl;rw[e2,ih,← List.append_assoc,← e,ih]
theorem reps_split(i N:Nat)(s:List Rn)(h:i≤N):reps i s++reps (N - i) s=reps N s:=by
 induction i with
 | zero=>simp[reps]
 | succ i ih =>
  rw[← ih (by omega),reps_one (n:=N - i) (by omega),show N - i - 1=N - (i+1) by omega,← List.append_assoc,reps_more]
theorem rleaves_any(B:Nat)(A:Option Addr)(n cap:Nat)(l:List Nd)(hc:n≤cap)(hn:n≤1099511627776)(M:Nat):∀(p:Nat) (x:Nd) (k r:F) (t:List Nd) (w:World) (A0:Option Addr) (n0 c0:Nat) (L:List Rn),k.sz < M→RdN w B A n l→(F.cons x k r).ok→l.drop p=(F.cons x k r).flat++t→B≤w.heap.size→L.length=n0→OwnV 114 2 w B A0 n0 c0 (rs L)→n0+(one x k.lvs).length≤1048576 →
  Calls Tryz.prog 91 #[.slice A n cap,.int .i64 p,.slice A0 n0 c0] w (MoreR B A0 (L++one x k.lvs) w):=by
 induction M with
 | zero=>intro p x k r t w A0 n0 c0 L h;omega
 | succ M ih =>
  intro p x k r t w A0 n0 c0 L hM h hok hl hB hL h0 hs;obtain⟨hk,hfit,hd,hx⟩:=kids_at hok hl;have hlen:=h.len;rw[hlen] at hfit;have hpn:p < n:=by omega
  by_cases h3:x.k=3
  ·have hm:k.cnt≤n:=by have:=F.cnt_le_sz k;omega
   have HPD:=hid fun j hj=>pos_dr hok.2.2.1 hd (by omega) j hj;have hkok:=hid hok;rw[lvs_seq h3] at hs ⊢;generalize hmd:k.cnt=m at hk hm HPD;have hp63:(p:Int)≤1099511627776:=by omega
   obtain⟨ad,x',rfl,hab,hx',hin,c0',c1',c2'⟩:=h.at_ hpn;rw[hx] at hx';injection hx' with hx';subst hx';obtain⟨xk,xp,xn⟩:=x;dsimp only at h3;subst h3;have HM:=hid hmd;have HK:=hid hk;have HIH:=hid ih;have HR:=hid h;have H0:=hid h0;have HL:=hid hL;clear hk hmd hl hd hx hlen hok ih hin h h0;go_enter Tryz.func91,Tryz.ntmps91;go_wp2_with fail;refine(rkids_new (some ad) n cap l (p:Int) w (HR.out.more hB) hc hn (by omega) (by omega)).mono ?_;rw[HK.out];rintro e w1⟨A1,n1,c1,rfl,hr1,hc1,hb1,hnew⟩;have hn1:n1=m:=by have:=hr1.len;simp[plc] at this;omega
   subst hn1;have hw1:=H0.out.below rfl hb1;have hs1:=hb1.size;have HFAR:Hid (∀ ad,A1=some ad→some ad.block≠obk A0):=hid fun ad' e'=>by
    have h1:=hnew ad' e';intro e2;have h2:=H0.out.older e2.symm;omega
   have HW1:=hid hw1;have HR1:=hid hr1;clear hw1 hnew hr1 c0' c1' c2';go_wp2_with fail;go_loopw [2,63] (fun o s wr=>∃(i:Nat) (Ao:Option Addr) (co:Nat) (Li:List Rn),i≤n1∧s=.int .i64 i∧o=.slice Ao (L++Li).length co∧Li++(F.dr i k).lvs=k.lvs∧OwnV 114 2 wr B Ao (L++Li).length co (rs (L++Li))∧Below B w wr∧Grew A0 Ao w1 wr) (fun _ s _=>n1 - (intOf s).toNat)
   case atStart=>exact⟨0,A0,c0,[],by omega,rfl,by rw[List.append_nil,HL.out],by simp[F.dr],by rw[List.append_nil,HL.out];exact HW1.out,hb1.mono hB,Grew.refl _ _⟩
   obtain⟨i,Ao,co,Li,hi,rfl,rfl,hLi,how,hb,hg⟩:=hrel;have HLI:=hid hLi;have HOW:=hid how;have HG:=hid hg;have hbs:=hb.size;clear hLi how hg;by_cases hlt:i < n1
   ·obtain⟨hd,hsz,hp1,hp2⟩:=HPD.out i (by omega);obtain⟨y,ky,r',ed⟩:=dr_cons (f:=k) (j:=i) (by have:=HM.out;omega);have hok':=dr_ok hkok.out.2.2.1 i;have ed2:=dr_succ ed;rw[ed] at hd hsz hok';have hky:ky.sz < M:=by simp only[F.sz] at hsz;omega
    have hlv:Li++(one y ky.lvs++r'.lvs)=k.lvs:=by have:=HLI.out;rw[ed] at this;exact this
    have hlen2:(L++Li).length+(one y ky.lvs).length≤1048576:=by
     have:=congrArg List.length hlv;simp only[List.length_append] at this ⊢;have:=HL.out;omega
    have hget:=plc_get l (p+1) n1 i hlt;have HED:=hid ed2;have HLV:=hid hlv;clear hsz ed ed2 hlv;generalize pos l (p+1) i=P at hd hp1 hp2 hget;obtain⟨adk,z,rfl,hadk,hz,hcell⟩:=HR1.out.at_ hlt;rw[hget] at hz;injection hz with hz;subst hz;have hcell2:wr.cell? (adk.add i)=some (.int .i64 (P:Int)):=by
     refine(World.cell?_of_block ?_).trans hcell;rw[add_block];exact HG.out.gb.block adk.block hadk (HFAR.out adk rfl)
    clear hget hcell;have hcall:=HIH.out P y ky r' _ wr Ao (L++Li).length co (L++Li) hky (HR.out.below hb) hok' hd (by omega) rfl HOW.out hlen2;have HCALL:=hid hcall;clear hcall hd hok' hlen2;generalize (L++Li).length=q at HCALL ⊢;go_wp2_with fail;refine HCALL.out.mono ?_;rintro e2 w4⟨A4,c4,rfl,how4,hb4,hg4⟩;have HOW4:=hid how4;have HG4:=hid hg4;clear how4 hg4;generalize hqd:(L++Li++one y ky.lvs).length=q4;have HQD:=hid hqd;clear hqd;go_wp2_with fail;go_roundw
    case rel=>exact⟨i+1,A4,c4,Li++one y ky.lvs,by omega,by go_num,by rw[← HQD.out,List.append_assoc],by rw[HED.out,List.append_assoc];exact HLV.out,by rw[← List.append_assoc];exact HOW4.out,hb.trans hb4,HG.out.trans HG4.out⟩
    simp[intOf];omega
   have hge:n1≤i:=by omega
   have e2:F.dr i k=.nil:=by rw[show i=k.cnt by have:=HM.out;omega];exact dr_all k
   have e3:Li=k.lvs:=by have:=HLI.out;rw[e2] at this;simpa [F.lvs] using this
   have HE3:=hid e3;clear e2 e3;generalize hqd:(L++Li).length=q;have HQD:=hid hqd;clear hqd;go_wp2_with fail;go_ret;have hw:=HOW.out;rw[HQD.out] at hw;exact MoreR.mk (L:=L++Li) (by rw[HE3.out]) HQD.out.symm hw hb ((Grew.bel hb1).trans HG.out)
  by_cases h4:x.k=4
  ·rw[lvs_rep h4] at hs ⊢;obtain⟨ad,x',rfl,hab,hx',hin,c0',c1',c2'⟩:=h.at_ hpn;rw[hx] at hx';injection hx' with hx';subst hx';obtain⟨xk,xp,xn⟩:=x;dsimp only at h4 hs;subst h4;have hn1:=fine_one hok.1;obtain⟨N,rfl⟩:=Int.eq_ofNat_of_zero_le (show 0≤xn by dsimp only at hn1;omega);have hN2:(N:Int)≤9223372036854775807:=hin.2.2.2;have hc':k.cnt=1:=hok.2.1;cases k with
   | nil=>simp[F.cnt] at hc'
   | cons y q r2 =>
    obtain rfl:r2=.nil:=F.cnt_zero (by simp only[F.cnt] at hc';omega);have e1:(F.cons y q .nil).lvs=one y q.lvs:=by simp[F.lvs]
    rw[Int.toNat_natCast,e1] at hs;simp only[Int.toNat_natCast,e1];have hq:q.sz < M:=by simp only[F.sz] at hM;omega
    have hok2:=hok.2.2.1;have HOK:=hid hok2;have HD:=hid hd;have HIH:=hid ih;have HR:=hid h;have H0:=hid h0;have HL:=hid hL;have hp63:(p:Int)≤1099511627776:=by omega
    have HX:=hid hx;clear h3 hk hd hx hlen hok hl ih hin h h0 hok2 hc' c2' e1 hn1 hM;generalize hsd:one y q.lvs=sl at hs ⊢;have HSD:=hid hsd;clear hsd;go_enter Tryz.func91,Tryz.ntmps91;go_wp2_with fail;clear c0' c1';go_loopw [2,7] (fun o s wr=>∃(i:Nat) (Ao:Option Addr) (co:Nat),i≤N∧s=.int .i64 i∧o=.slice Ao (L++reps i sl).length co∧OwnV 114 2 wr B Ao (L++reps i sl).length co (rs (L++reps i sl))∧Below B w wr∧Grew A0 Ao w wr) (fun _ s _=>N - (intOf s).toNat)
    case atStart=>exact⟨0,A0,c0,by omega,rfl,by simp[reps,HL.out],by simp only[reps,List.append_nil,HL.out];exact H0.out,Below.refl _ _,Grew.refl _ _⟩
    obtain⟨i,Ao,co,hi,rfl,rfl,how,hb,hg⟩:=hrel;have HOW:=hid how;have HG:=hid hg;have hbs:=hb.size;clear how hg;obtain⟨ad',x',e,_,hx',_,k0,k1,k2⟩:=(HR.out.below hb).at_ hpn;injection e with e;subst e;rw[HX.out] at hx';injection hx' with hx';subst hx';clear k0 k1;by_cases hlt:i < N
    ·have hlen2:(L++reps i sl).length+(one y q.lvs).length≤1048576:=by
      rw[HSD.out];have:=congrArg List.length (reps_split (i+1) N sl (by omega));rw[reps_more] at this;simp only[List.length_append] at this ⊢;have:=HL.out;omega
     have hcall:=HIH.out (p+1) y q .nil _ wr Ao (L++reps i sl).length co (L++reps i sl) hq (HR.out.below hb) HOK.out HD.out (by omega) rfl HOW.out hlen2;rw[HSD.out] at hcall;have HCALL:=hid hcall;clear hcall hlen2;generalize (L++reps i sl).length=q1 at HCALL ⊢;go_wp2_with fail;refine HCALL.out.mono ?_;rintro e2 w4⟨A4,c4,rfl,how4,hb4,hg4⟩;have HOW4:=hid how4;have HG4:=hid hg4;clear how4 hg4;generalize hqd:(L++reps i sl++sl).length=q4;have HQD:=hid hqd;clear hqd;go_wp2_with fail;go_roundw
     case rel=>exact⟨i+1,A4,c4,by omega,by go_num,by rw[← HQD.out,List.append_assoc,← reps_more],by rw[reps_more,← List.append_assoc];exact HOW4.out,hb.trans hb4,HG.out.trans HG4.out⟩
     simp[intOf];omega
    have hge:N≤i:=by omega
    have e3:i=N:=by omega
    have HE3:=hid e3;clear e3;generalize hqd:(L++reps i sl).length=q1;have HQD:=hid hqd;clear hqd;go_wp2_with fail;go_ret;have hw:=HOW.out;rw[HQD.out] at hw;exact MoreR.mk (L:=L++reps i sl) (by rw[HE3.out]) HQD.out.symm hw hb HG.out
  have hk0:k=.nil:=F.cnt_zero (by rw[hok.2.1];unfold kn;rw[if_neg h3,if_neg h4]);rw[lvs_leaf h3 h4];exact leaf1_any B A n cap l hc hn p x w h hx hok.1 h3 h4 hB A0 n0 c0 L hL h0 (by omega)
end Go.Proofs.YtdkngfdnfekgfaaGreat
