import Derived.Test.YtdkngfdnfekgfaaGreatLot3
set_option maxHeartbeats 1600000
set_option maxRecDepth 100000
set_option linter.unusedSimpArgs false
set_option linter.unusedVariables false
namespace Go.Proofs.YtdkngfdnfekgfaaGreat
open Go.RowKit Tab
theorem pos_fit{l:List Nd}{a:Nat}(h:size l (a:Int)≠0):∃ x,l[a]? = some x∧fine x=true∧∀ j,j≤kn x→pos l (a+1) j≤l.length:=by
 obtain⟨x,k,t,hok,_,h2,h3,h4⟩:=size_tree h;rw[Int.toNat_natCast] at h3;have hd:l.drop (a+1)=k.flat++t:=by
  rw[← List.drop_drop,h3];rfl
 refine⟨x,?_,hok.1,fun j hj=>(pos_dr hok.2.2.1 hd (by omega) j (by rw[hok.2.1];exact hj)).2.2.2⟩;have:(l.drop a)[0]? = some x:=by rw[h3];rfl
 simpa using this
theorem kids_none(l:List Nd)(a:Int)(h:size l a=0):kids l a=[]:=by unfold kids;rw[if_pos h]
def MadeJ(l:List Int)(w:World)(e:Ending)(w':World):Prop:=∃ A n c,e=.returned (.slice A n c)∧RdI w' w'.heap.size A n l∧n≤c∧Below w.heap.size w w'∧∀ ad,A=some ad→w.heap.size≤ad.block
theorem OwnV.newer{E s:Nat}{w:World}{B n c:Nat}{A:Option Addr}{l:List Value}(h:OwnV E s w B A n c l):∀ ad,A=some ad→B≤ad.block:=fun ad e=>by
 rcases h.2 with ⟨hv,_⟩ | ⟨g,cap,cur,hv,hbg,_⟩
 ·injection hv with h1;rw[e] at h1;cases h1
 ·injection hv with h1;rw[e] at h1;injection h1 with h1;rw[h1];exact hbg
theorem MadeJ.mk{l:List Int}{w w':World}{A:Option Addr}{n c:Nat}(h:OwnV 3 1 w' w.heap.size A n c (is l))(hb:Below w.heap.size w w'):MadeJ l w (.returned (.slice A n c)) w' :=
 ⟨A,n,c,rfl,⟨by have:=h.len;rw[is_length] at this;omega,h.rd⟩,h.cap,hb,h.newer⟩
theorem madeJ_nil(w w':World)(hb:Below w.heap.size w w'):MadeJ [] w (.returned (.slice none 0 0)) w':=⟨none,0,0,rfl,⟨rfl,RdV.nil⟩,Nat.le_refl _,hb,fun _ h=>by cases h⟩
theorem kids_tree{l:List Nd}{a:Nat}(h:size l (a:Int)≠0):∃ m,kids l (a:Int)=plc l (a+1) m∧m≤128∧∀ j,j≤m→pos l (a+1) j≤a+size l (a:Int)∧(j < m→pos l (a+1) j < a+size l (a:Int))∧(j=m→pos l (a+1) j=a+size l (a:Int)):=by
 obtain⟨x,k,t,hok,_,h2,h3,h4⟩:=size_tree h;rw[Int.toNat_natCast] at h3;have hd:l.drop (a+1)=k.flat++t:=by
  rw[← List.drop_drop,h3];rfl
 refine⟨kn x,?_,kn_le hok.1,fun j hj=>?_⟩
 ·unfold kids;have:(l.drop a)[0]? = some x:=by rw[h3];rfl
  have hx:l[a]? = some x:=by simpa using this
  rw[if_neg h,Int.toNat_natCast,hx];rfl
 obtain⟨_,h5,_,_⟩:=pos_dr hok.2.2.1 hd (by omega) j (by rw[hok.2.1];exact hj);have h6:=dr_cnt k j;have h7:=F.cnt_le_sz (F.dr j k);rw[hok.2.1] at h6;refine⟨by omega,fun hlt=>by omega,fun he=>?_⟩;have h8:F.dr j k=.nil:=F.cnt_zero (by omega);rw[h8] at h5;simp only[F.sz] at h5;omega
theorem rkids_in(A:Option Addr)(n cap:Nat)(l:List Nd)(a:Nat)(w:World)(h:RdN w w.heap.size A n l)(hc:n≤cap)(hn:n≤1099511627776)(ha:a < n)(hs:size l (a:Int)≠0):
  Calls Tryz.prog 111 #[.slice A n cap,.int .i64 a] w (MadeJ (kids l a) w):=by
 obtain⟨m,hkd,hm,hpos⟩:=kids_tree hs;rw[hkd];have hfit:a+size l (a:Int)≤n:=by
  obtain⟨_,h1,_⟩:=hpos m (Nat.le_refl _);obtain⟨x,hx,_,h2⟩:=pos_fit hs;obtain⟨x',k,t,hok,_,h3,h4,h5⟩:=size_tree hs;rw[Int.toNat_natCast] at h4;have:=congrArg List.length h4;rw[List.length_drop,List.length_cons,List.length_append,F.flat_length] at this;have:=h.len;omega
 clear hkd;generalize hSd:size l (a:Int)=S at hs hfit hpos;have HSD:=hid hSd;have HP:=hid hpos;clear hSd hpos hs;have hca:¬ cap=a:=by omega
 go_enter Tryz.func111,Tryz.ntmps111;go_wp2_with fail;refine(rsize_any A n cap l a w h hc hn).mono ?_;rw[HSD.out];rintro e w1⟨rfl,hb1⟩;go_wp2_with fail;go_loopw [6,7] (fun o s wr=>∃(i c:Nat) (Ao:Option Addr),i≤m∧s=.int .i64 (pos l (a+1) i:Nat)∧o=.slice Ao i c∧OwnV 3 1 wr w.heap.size Ao i c (is (plc l (a+1) i))∧Below w.heap.size w wr) (fun o _ _=>m - lenOf o)
 case atStart=>exact⟨0,0,none,by omega,ret_num (by simp[pos]),rfl,OwnV.nil _ _ _ _,hb1⟩
 obtain⟨i,c,Ao,hi,rfl,rfl,hw,hb⟩:=hrel;by_cases hlt:i < m
 ·obtain⟨_,hp1,_⟩:=HP.out i hi;have hp1:=hp1 hlt;have hp2:pos l (a+1) i+size l (pos l (a+1) i:Nat)≤a+S:=(HP.out (i+1) (by omega)).1;have HPS:Hid (pos l (a+1) (i+1)=pos l (a+1) i+size l (pos l (a+1) i:Nat)):=hid rfl;have HPL:=hid (plc_succ l (a+1) i);generalize hPd:pos l (a+1) i=P at hp1 hp2 HPS HPL ⊢;have HPD:=hid hPd;clear hPd;have hlt2:decide ((P:Int) < (a:Int)+(S:Int))=true:=by simp;omega
  have hbs:=hb.alloc hb.size (.cells #[.int .i64 (P:Int)] 3);have hw':=OwnV.below hw rfl (bl1 wr (.cells #[.int .i64 (P:Int)] 3));have hrd:=rdV_new wr #[.int .i64 (P:Int)] 3 (is [(P:Int)]) rfl;go_wp2_with (at_builtin;go_loud (refine wpList_appV elI rfl (.tmp 23) (.tmp 25) rfl rfl w.heap.size Ao i c _ rfl hw' _ 1 1 _ _ rfl hrd rfl (is_one _) (by omega) (by unfold maxLen;omega) hbs.size (i+1) rfl (is (plc l (a+1) (i+1))) (by rw[HPL.out,is_append]) ?_;intro A2 c2 w2 hw2 hb2 _));have k2:=hbs.trans hb2;refine(rsize_any A n cap l (P:Int) _ (h.on k2) hc hn).mono ?_;generalize size l (P:Int)=Z at HPS hp2 ⊢;rintro e w4⟨rfl,hb4⟩;go_wp2_with fail;go_roundw
  case rel=>exact⟨i+1,c2,A2,by omega,ret_num (by rw[HPS.out];omega),rfl,hw2.below rfl hb4,k2.trans (hb4.mono k2.size)⟩
  simp[lenOf];omega
 have hge:m≤i:=by omega
 have e:i=m:=by omega
 obtain⟨_,_,hp1⟩:=HP.out i hi;have hp1:=hp1 e;generalize pos l (a+1) i=P at hp1 ⊢;have hlt2:decide ((P:Int) < (a:Int)+(S:Int))=false:=by simp;omega
 have HPD:=hid hp1;have HE:=hid e;clear hp1 e;go_wp2_with fail;go_ret;have e:=HE.out;subst e;exact MadeJ.mk hw hb
theorem rkids_out(A:Option Addr)(n cap:Nat)(l:List Nd)(a:Int)(w:World)(h:RdN w w.heap.size A n l)(hc:n≤cap)(hn:n≤1099511627776)(hs:size l a=0)(ha:-9223372036854775808≤a)(ha2:a < 9223372036854775807):
  Calls Tryz.prog 111 #[.slice A n cap,.int .i64 a] w (MadeJ [] w):=by
 have HS:=hid hs;clear hs;have hlt:decide (a+1 < a)=false:=decide_eq_false (by omega);go_enter Tryz.func111,Tryz.ntmps111;go_wp2_with fail;refine(rsize_any A n cap l a w h hc hn).mono ?_;rw[HS.out];rintro e w1⟨rfl,hb1⟩;go_wp2_with fail;go_loopw [6,7] (fun o s wr=>o=.slice none 0 0∧s=.int .i64 (a+1)∧Below w.heap.size w wr) (fun _ _ _=>0)
 case atStart=>exact⟨rfl,rfl,hb1⟩
 obtain⟨rfl,rfl,hb⟩:=hrel;go_wp2_with fail;go_ret;exact madeJ_nil _ _ hb
theorem rkids_new(A:Option Addr)(n cap:Nat)(l:List Nd)(a:Int)(w:World)(h:RdN w w.heap.size A n l)(hc:n≤cap)(hn:n≤1099511627776)(ha:-9223372036854775808≤a)(ha2:a < 9223372036854775807):
  Calls Tryz.prog 111 #[.slice A n cap,.int .i64 a] w (MadeJ (kids l a) w):=by
 by_cases hs:size l a=0
 ·rw[kids_none l a hs];exact rkids_out A n cap l a w h hc hn hs ha ha2
 obtain⟨x,k,t,_,h1,h2,_⟩:=size_tree hs;obtain⟨a',rfl⟩:=Int.eq_ofNat_of_zero_le h1;exact rkids_in A n cap l a' w h hc hn (by have:=h.len;omega) hs
theorem rkids_any(A:Option Addr)(n cap:Nat)(l:List Nd)(a:Int)(w:World)(h:RdN w w.heap.size A n l)(hc:n≤cap)(hn:n≤1099511627776)(ha:-9223372036854775808≤a)(ha2:a < 9223372036854775807):
  Calls Tryz.prog 111 #[.slice A n cap,.int .i64 a] w (MadeI (kids l a) w):=by
 refine(rkids_new A n cap l a w h hc hn ha ha2).mono ?_;rintro e w'⟨A,n,c,h1,h2,h3,h4,_⟩;exact⟨A,n,c,h1,h2,h3,h4⟩
theorem kids_at{l t:List Nd}{p:Nat}{x:Nd}{k r:F}(hok:(F.cons x k r).ok)(hl:l.drop p=(F.cons x k r).flat++t):kids l (p:Int)=plc l (p+1) k.cnt∧p+1+k.sz≤l.length∧l.drop (p+1)=k.flat++(r.flat++t)∧l[p]? = some x:=by
 have hs:=size_at hok hl;have hx:l[p]? = some x:=by
  have:(l.drop p)[0]? = some x:=by rw[hl];rfl
  simpa using this
 have hd:l.drop (p+1)=k.flat++(r.flat++t):=by
  rw[← List.drop_drop,hl];simp[F.flat]
 refine⟨?_,?_,hd,hx⟩
 ·unfold kids;rw[if_neg (by omega),Int.toNat_natCast,hx,hok.2.1];rfl
 have:=congrArg List.length hl;rw[List.length_drop,List.length_append,F.flat_length] at this;simp only[F.sz] at this;omega
theorem plc_get(l:List Nd)(p m i:Nat)(h:i < m):(plc l p m)[i]? = some (pos l p i:Int):=by
 simp[plc,h]
theorem rdepth_any(A:Option Addr)(n cap:Nat)(l:List Nd)(hc:n≤cap)(hn:n≤1099511627776)(M:Nat):∀(p:Nat) (x:Nd) (k r:F) (t:List Nd) (w:World),k.sz < M→RdN w w.heap.size A n l→(F.cons x k r).ok→l.drop p=(F.cons x k r).flat++t →
  Calls Tryz.prog 109 #[.slice A n cap,.int .i64 p] w (Ans (.int .i64 (k.dep+1:Nat)) w):=by
 induction M with
 | zero=>intro p x k r t w h;omega
 | succ M ih =>
  intro p x k r t w hM h hok hl;obtain⟨hk,hfit,hd,hx⟩:=kids_at hok hl;have hlen:=h.len;rw[hlen] at hfit;have hm:k.cnt≤n:=by have:=F.cnt_le_sz k;omega
  have HPD:=hid fun j hj=>pos_dr hok.2.2.1 hd (by omega) j hj;have hkok:=hid hok.2.2.1;generalize hmd:k.cnt=m at hk hm HPD;have hp63:(p:Int)≤1099511627776:=by omega
  have hdz:=F.dep_le_sz k;have HM:=hid hmd;have HK:=hid hk;have HIH:=hid ih;clear hk hmd hl hd hx hlen hok ih;go_enter Tryz.func109,Tryz.ntmps109;go_wp2_with fail;refine(rkids_any A n cap l (p:Int) w h hc hn (by omega) (by omega)).mono ?_;rw[HK.out];rintro e w1⟨A1,n1,c1,rfl,hr1,hc1,hb1⟩;have hn1:n1=m:=by have:=hr1.len;simp[plc] at this;omega
  subst hn1;go_wp2_with fail;go_loopw [5,12] (fun d s wr=>∃(i e:Nat),i≤n1∧s=.int .i64 i∧d=.int .i64 e∧max e (F.dr i k).dep=k.dep∧Below w1.heap.size w1 wr) (fun _ s _=>n1 - (intOf s).toNat)
  case atStart=>exact⟨0,0,by omega,rfl,rfl,by simp[F.dr],Below.refl _ _⟩
  obtain⟨i,e,hi,rfl,rfl,he,hb⟩:=hrel;have HE:=hid he;have he2:e≤k.dep:=by omega
  clear he;by_cases hlt:i < n1
  ·obtain⟨hd,hsz,hp1,hp2⟩:=HPD.out i (by omega);obtain⟨y,ky,r',ed⟩:=dr_cons (f:=k) (j:=i) (by have:=HM.out;omega);have hok':=dr_ok hkok.out i;have ed2:=dr_succ ed;rw[ed] at hd hsz hok';have hky:ky.sz < M:=by simp only[F.sz] at hsz;omega
   have hdep:max e (max (ky.dep+1) r'.dep)=k.dep:=by have:=HE.out;rw[ed] at this;exact this
   have hget:=plc_get l (p+1) n1 i hlt;have HED:=hid ed2;have HDEP:=hid hdep;clear hsz ed ed2;generalize pos l (p+1) i=P at hd hp1 hp2 hget;have hky2:ky.dep+1≤k.dep:=by omega
   obtain⟨adk,z,rfl,_,hz,hcell⟩:=(hr1.on hb).at_ hlt;rw[hget] at hz;injection hz with hz;subst hz;clear hget;have k1:=hb1.trans (hb.mono hb1.size);go_wp2_with fail;refine(HIH.out P y ky r' _ wr hky (h.on k1) hok' hd).mono ?_;rintro e2 w4⟨rfl,hb4⟩;go_wp2_with fail;go_roundw
   case rel=>exact⟨i+1,max e (ky.dep+1),by omega,by go_num,ret_num (by split <;> omega),by rw[HED.out];have:=HDEP.out;omega,hb.trans (hb4.mono hb.size)⟩
   simp[intOf];omega
  have hge:n1≤i:=by omega
  go_wp2_with fail;go_ret;refine Ans.mk (ret_num (b:=(e:Int)+1) ?_) (hb1.trans (hb.mono hb1.size));have e1:=HE.out;have e2:F.dr i k=.nil:=by rw[show i=k.cnt by have:=HM.out;omega];exact dr_all k
  rw[e2] at e1;simp only[F.dep] at e1;omega
def hl4(a:Nat):Nat:=min a 4097
theorem hl4_mul(a b:Nat)(ha:1≤a)(hb:1≤b):hl4 (hl4 a*hl4 b)=hl4 (a*b):=by
 unfold hl4;by_cases h1:a≤4097
 ·rw[Nat.min_eq_left h1];by_cases h2:b≤4097
  ·rw[Nat.min_eq_left h2]
  rw[Nat.min_eq_right (by omega:4097≤b)];have h3:1*4097≤a*4097:=Nat.mul_le_mul_right _ ha;have h4:a*4097≤a*b:=Nat.mul_le_mul_left _ (by omega);omega
 rw[Nat.min_eq_right (by omega:4097≤a)];have h3:4097*1≤4097*min b 4097:=Nat.mul_le_mul_left _ (by omega);have h4:4097*1≤4097*b:=Nat.mul_le_mul_left _ hb;have h5:4097*b≤a*b:=Nat.mul_le_mul_right _ (by omega);omega
theorem rlength_any(A:Option Addr)(n cap:Nat)(l:List Nd)(hc:n≤cap)(hn:n≤1099511627776)(M:Nat):∀(p:Nat) (x:Nd) (k r:F) (t:List Nd) (w:World),k.sz < M→RdN w w.heap.size A n l→(F.cons x k r).ok→l.drop p=(F.cons x k r).flat++t →
  Calls Tryz.prog 110 #[.slice A n cap,.int .i64 p] w (Ans (.int .i64 (hl4 (F.tick x k.len):Nat)) w):=by
 induction M with
 | zero=>intro p x k r t w h;omega
 | succ M ih =>
  intro p x k r t w hM h hok hl;obtain⟨hk,hfit,hd,hx⟩:=kids_at hok hl;have hlen:=h.len;rw[hlen] at hfit;have hm:k.cnt≤n:=by have:=F.cnt_le_sz k;omega
  have HPD:=hid fun j hj=>pos_dr hok.2.2.1 hd (by omega) j hj;have hkok:=hid hok;generalize hmd:k.cnt=m at hk hm HPD;have hp63:(p:Int)≤1099511627776:=by omega
  have hpn:p < n:=by omega
  have HM:=hid hmd;have HK:=hid hk;have HX:=hid hx;have HIH:=hid ih;clear hk hmd hl hd hx hlen hok ih;go_enter Tryz.func110,Tryz.ntmps110;go_wp2_with fail;refine(rkids_any A n cap l (p:Int) w h hc hn (by omega) (by omega)).mono ?_;rw[HK.out];rintro e w1⟨A1,n1,c1,rfl,hr1,hc1,hb1⟩;have hn1:n1=m:=by have:=hr1.len;simp[plc] at this;omega
  subst hn1;go_wp2_with fail;go_loopw [5,12] (fun d s wr=>∃(i e:Nat),i≤n1∧s=.int .i64 i∧d=.int .i64 e∧e≤4097∧hl4 (e+(F.dr i k).len)=hl4 k.len∧Below w1.heap.size w1 wr) (fun _ s _=>n1 - (intOf s).toNat)
  case atStart=>exact⟨0,0,by omega,rfl,rfl,by omega,by simp[F.dr],Below.refl _ _⟩
  obtain⟨i,e,hi,rfl,rfl,he2,he,hb⟩:=hrel;have HE:=hid he;clear he;have k1:=hb1.trans (hb.mono hb1.size);by_cases hlt:i < n1
  ·obtain⟨hd,hsz,hp1,hp2⟩:=HPD.out i (by omega);obtain⟨y,ky,r',ed⟩:=dr_cons (f:=k) (j:=i) (by have:=HM.out;omega);have hok':=dr_ok hkok.out.2.2.1 i;have ed2:=dr_succ ed;rw[ed] at hd hsz hok';have hky:ky.sz < M:=by simp only[F.sz] at hsz;omega
   have hdep:hl4 (e+(F.tick y ky.len+r'.len))=hl4 k.len:=by have:=HE.out;rw[ed] at this;exact this
   have hget:=plc_get l (p+1) n1 i hlt;have HED:=hid ed2;have HDEP:=hid hdep;clear hsz ed ed2 hdep;generalize pos l (p+1) i=P at hd hp1 hp2 hget;obtain⟨adk,z,rfl,_,hz,hcell⟩:=(hr1.on hb).at_ hlt;rw[hget] at hz;injection hz with hz;subst hz;clear hget;have hb4097:hl4 (F.tick y ky.len)≤4097:=by unfold hl4;omega
   go_wp2_with fail;refine(HIH.out P y ky r' _ wr hky (h.on k1) hok' hd).mono ?_;generalize hV:hl4 (F.tick y ky.len)=V at hb4097 ⊢;have HV:=hid hV;clear hV;rintro e2 w4⟨rfl,hb4⟩;go_wp2_with fail;go_roundw
   case rel =>
    refine⟨i+1,min (e+V) 4097,by omega,by go_num,ret_num (by split <;> omega),by omega,?_,hb.trans (hb4.mono hb.size)⟩;rw[HED.out,← HDEP.out];have:=HV.out;unfold hl4 at *;omega
   simp[intOf];omega
  have hge:n1≤i:=by omega
  have e2:F.dr i k=.nil:=by rw[show i=k.cnt by have:=HM.out;omega];exact dr_all k
  have e1:=HE.out;rw[e2] at e1;have e3:e=hl4 k.len:=by simp only[F.len,hl4] at e1 ⊢;omega
  have HE3:=hid e3;clear e1 e2 e3;obtain⟨ad,x',rfl,_,hx',hin,c0,c1,c2⟩:=(h.on k1).at_ hpn;obtain⟨xk,xp,xn⟩:=x';rw[HX.out] at hx';injection hx' with hx';subst hx';have h1n:1≤xn:=fine_one hkok.out.1;have hkc:Hid (k.cnt=kn ⟨xk,xp,xn⟩):=hid hkok.out.2.1;have hkp:Hid k.ok:=hid hkok.out.2.2.1;have hx2:xn≤9223372036854775807:=hin.2.2.2;clear hin hr1;by_cases h3:xk=3
  ·subst h3;go_wp2_with fail;go_ret;refine Ans.mk (ret_num (b:=(e:Int)) ?_) k1;rw[HE3.out];rfl
  by_cases h4:xk=4
  ·subst h4;have hlp:1≤k.len:=F.len_pos hkp.out (by rw[hkc.out];exact Nat.one_pos);have htk:F.tick ⟨4,xp,xn⟩ k.len=k.len*xn.toNat:=rfl;have hfin:∀ z:Nat,z=min xn.toNat 4097→hl4 (e*z)=hl4 (k.len*xn.toNat):=fun z hz=>by
    rw[hz,HE3.out];exact hl4_mul _ _ hlp (by omega)
   have HF:=hid hfin
   have HT:=hid htk;clear hfin htk h3;by_cases hN:4097 < xn
   ·have hpr:(0:Int)≤(e:Int)*4097:=by omega
    go_wp2_with fail
    all_goals
     go_ret;refine Ans.mk ?_ k1;refine ret_num ?_;rw[HT.out,← HF.out 4097 (by omega)];unfold hl4;omega
   obtain⟨N,rfl⟩:=Int.eq_ofNat_of_zero_le (show 0≤xn by omega);have hN2:N≤4097:=by omega
   have h0:e*N≤4097*4097:=Nat.mul_le_mul he2 hN2;have hpr:(0:Int)≤(e:Int)*(N:Int):=Int.mul_nonneg (by omega) (by omega);have hpr2:(e:Int)*(N:Int)≤16785409:=(Int.natCast_mul e N)▸(show ((e*N:Nat):Int)≤16785409 by omega);clear h0;go_wp2_with fail
   all_goals
    go_ret;refine Ans.mk ?_ k1;refine ret_num ?_;rw[HT.out,← HF.out N (by omega)];unfold hl4;rw[← Int.natCast_mul] at *;omega
  have h3':(xk == 3)=false:=beq_eq_false_iff_ne.2 h3;have h4':(xk == 4)=false:=beq_eq_false_iff_ne.2 h4;have htk:F.tick ⟨xk,xp,xn⟩ k.len=xn.toNat:=by unfold F.tick;rw[if_neg h3,if_neg h4]
  have HT:=hid htk;clear htk h3 h4;go_wp2_with fail
  all_goals
   go_ret;refine Ans.mk ?_ k1;refine ret_num ?_;rw[HT.out];unfold hl4;omega
end Go.Proofs.YtdkngfdnfekgfaaGreat
