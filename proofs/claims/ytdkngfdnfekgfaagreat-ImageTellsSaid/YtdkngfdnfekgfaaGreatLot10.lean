import Derived.Test.YtdkngfdnfekgfaaGreatLot9
import Derived.Test.YtdkngfdnfekgfaaGreatLot7
import Derived.Great.BuildSlice
set_option maxHeartbeats 3200000
set_option maxRecDepth 100000
set_option linter.unusedSimpArgs false
set_option linter.unusedVariables false
namespace Go.Proofs.YtdkngfdnfekgfaaGreat
open Go.RowKit Tab
def MoreR(B:Nat)(A0:Option Addr)(L:List Rn)(w:World)(e:Ending)(w':World):Prop:=∃ A c,e=.returned (.slice A L.length c)∧OwnV 114 2 w' B A L.length c (rs L)∧Below B w w'∧Grew A0 A w w'
theorem MoreR.mk{B:Nat}{L L':List Rn}{w w':World}{A0 A:Option Addr}{n c:Nat}(hL:L=L')(hn:n=L.length)(h:OwnV 114 2 w' B A n c (rs L))(hb:Below B w w')(hg:Grew A0 A w w'):MoreR B A0 L' w (.returned (.slice A n c)) w':=by
 subst hL;subst hn;exact⟨A,c,rfl,h,hb,hg⟩
theorem leaf1_any(B:Nat)(A:Option Addr)(n cap:Nat)(l:List Nd)(hc:n≤cap)(hn:n≤1099511627776)(p:Nat)(x:Nd)(w:World)(h:RdN w B A n l)(hx:l[p]? = some x)(hf:fine x=true)(h3:¬ x.k=3)(h4:¬ x.k=4)(hB:B≤w.heap.size)
  (A0:Option Addr) (n0 c0:Nat) (L:List Rn) (hL:L.length=n0) (h0:OwnV 114 2 w B A0 n0 c0 (rs L)) (hs:n0≤1048576) :
  Calls Tryz.prog 91 #[.slice A n cap,.int .i64 p,.slice A0 n0 c0] w (MoreR B A0 (L++[⟨whose x,x.n.toNat⟩]) w):=by
 have hpl:p < n:=by rw[← h.len];exact(List.getElem?_eq_some_iff.1 hx).1
 obtain⟨ad,y,rfl,hab,hy,hin,d0,d1,d2⟩:=h.at_ hpl
 rw[hx] at hy
 injection hy with hy
 subst hy
 obtain⟨xk,xp,xn⟩:=x
 have hn1:=fine_one hf
 have hff:=(fine_iff _ _ _).1 hf
 obtain⟨N,rfl⟩:=Int.eq_ofNat_of_zero_le (show 0≤xn by dsimp only at hn1;omega)
 have hlt0:(p:Int) < (n:Int):=by omega
 have hlt1:0≤(p:Int):=by omega
 dsimp only at h3 h4
 have hk:xk=1∨xk=2:=by omega
 have H0:=hid h0
 have hal:(ad.add (p*3)).block < w.heap.size:=by rw[add_block];omega
 clear h hf hff hx hin h0 h3 h4
 have hfin:∀(v:Int) (A2:Option Addr) (c2:Nat) (w2:World),v=whose ⟨xk,xp,(N:Int)⟩→OwnV 114 2 w2 B A2 (n0+1) c2 (rs (L++[⟨v,N⟩]))→Below B (w.alloc (.cells #[.int .i64 v,.int .i64 (N:Int)] 114)) w2→Grew A0 A2 (w.alloc (.cells #[.int .i64 v,.int .i64 (N:Int)] 114)) w2→MoreR B A0 (L++[⟨whose ⟨xk,xp,(N:Int)⟩,(N:Int).toNat⟩]) w (.returned (.slice A2 (n0+1) c2)) w2:=fun v A2 c2 w2 hv hw hb hg=>by
  refine MoreR.mk (L:=L++[⟨v,N⟩]) (by rw[hv];simp) (by simp[hL]) hw ?_ ((Grew.bel (bl1 w _)).trans hg)
  exact((Below.refl B w).alloc hB _).trans hb
 have HF:=hid hfin
 clear hfin
 rcases hk with rfl | rfl
 ·have hw1:OwnV 114 2 (w.alloc (.cells #[.int .i64 xp,.int .i64 (N:Int)] 114)) B A0 n0 c0 (rs L):=H0.out.below rfl (bl1 w (.cells #[.int .i64 xp,.int .i64 (N:Int)] 114))
  have hr1:=rdV_new w #[.int .i64 xp,.int .i64 (N:Int)] 114 (rs [⟨xp,N⟩]) rfl
  have hB1:B≤(w.alloc (.cells #[.int .i64 xp,.int .i64 (N:Int)] 114)).heap.size:=by simp;omega
  go_enter Tryz.func91,Tryz.ntmps91
  go_wp2_with fail
  go_region_law (refine step_appX elR rfl (.tmp 17) (.tmp 29) rfl rfl B A0 n0 c0 _ rfl hw1 _ 1 1 _ _ rfl hr1 rfl Nat.one_pos (rs_one _) (by omega) (by unfold maxLen;omega) hB1 (n0+1) rfl (rs (L++[⟨xp,N⟩])) (rs_append _ _).symm ?_;intro A2 c2 w2 hw2 hb2 hg2)
  all_goals
   go_wp2_with fail
   go_ret
   exact HF.out xp A2 c2 w2 rfl hw2 ⟨hb2.os,hb2.tape,hb2.output,hb2.size,hb2.block⟩ hg2.drew
 ·have hw1:OwnV 114 2 (w.alloc (.cells #[.int .i64 (-1),.int .i64 (N:Int)] 114)) B A0 n0 c0 (rs L):=H0.out.below rfl (bl1 w (.cells #[.int .i64 (-1),.int .i64 (N:Int)] 114))
  have hr1:=rdV_new w #[.int .i64 (-1),.int .i64 (N:Int)] 114 (rs [⟨-1,N⟩]) rfl
  have hB1:B≤(w.alloc (.cells #[.int .i64 (-1),.int .i64 (N:Int)] 114)).heap.size:=by simp;omega
  go_enter Tryz.func91,Tryz.ntmps91
  go_wp2_with (at_builtin;go_loud (refine wpList_appX elR rfl (.tmp 33) (.tmp 40) rfl rfl B A0 n0 c0 _ rfl hw1 _ 1 1 _ _ rfl hr1 rfl Nat.one_pos (rs_one _) (by omega) (by unfold maxLen;omega) hB1 (n0+1) rfl (rs (L++[⟨-1,N⟩])) (rs_append _ _).symm ?_;intro A2 c2 w2 hw2 hb2 hg2))
  go_ret
  exact HF.out (-1) A2 c2 w2 rfl hw2 hb2 hg2
theorem OwnV.older{E s:Nat}{w:World}{B n c:Nat}{A:Option Addr}{l:List Value}(h:OwnV E s w B A n c l){g:Nat}(e:obk A=some g):g < w.heap.size:=by
 rcases h.2 with ⟨hv,_⟩ | ⟨g',cap,cur,hv,_,hg,_⟩
 ·injection hv with h1;rw[h1] at e;cases e
 injection hv with h1;rw[h1] at e;injection e with e;rw[← e];exact(Array.getElem?_eq_some_iff.1 hg).1
theorem reps_more(i:Nat)(s:List Rn):reps (i+1) s=reps i s++s:=by
 induction i with
 | zero=>simp[reps]
 | succ j ih =>
  have e:reps (j+1) s=s++reps j s:=rfl;have e2:reps (j+1+1) s=s++reps (j+1) s:=rfl;rw[e2,ih,← List.append_assoc,← e,ih]
theorem reps_split(i N:Nat)(s:List Rn)(h:i≤N):reps i s++reps (N - i) s=reps N s:=by
 induction i with
 | zero=>simp[reps]
 | succ i ih =>
  rw[← ih (by omega),reps_one (n:=N - i) (by omega),show N - i - 1=N - (i+1) by omega,← List.append_assoc,reps_more]
theorem rleaves_any(B:Nat)(A:Option Addr)(n cap:Nat)(l:List Nd)(hc:n≤cap)(hn:n≤1099511627776)(M:Nat):∀(p:Nat) (x:Nd) (k r:F) (t:List Nd) (w:World) (A0:Option Addr) (n0 c0:Nat) (L:List Rn),k.sz < M→RdN w B A n l→(F.cons x k r).ok→l.drop p=(F.cons x k r).flat++t→B≤w.heap.size→L.length=n0→OwnV 114 2 w B A0 n0 c0 (rs L)→n0+(one x k.lvs).length≤1048576 →
  Calls Tryz.prog 91 #[.slice A n cap,.int .i64 p,.slice A0 n0 c0] w (MoreR B A0 (L++one x k.lvs) w):=by
 induction M with
 | zero=>intro p x k r t w A0 n0 c0 L h;omega
 | succ M ih =>
  intro p x k r t w A0 n0 c0 L hM h hok hl hB hL h0 hs;obtain⟨hk,hfit,hd,hx⟩:=kids_at hok hl;have hlen:=h.len;rw[hlen] at hfit;have hpn:p < n:=by omega
  by_cases h3:x.k=3
  ·have hm:k.cnt≤n:=by have:=F.cnt_le_sz k;omega
   have HPD:=hid fun j hj=>pos_dr hok.2.2.1 hd (by omega) j hj;have hkok:=hid hok;rw[lvs_seq h3] at hs ⊢;generalize hmd:k.cnt=m at hk hm HPD;have hp63:(p:Int)≤1099511627776:=by omega
   obtain⟨ad,x',rfl,hab,hx',hin,c0',c1',c2'⟩:=h.at_ hpn;rw[hx] at hx';injection hx' with hx';subst hx';obtain⟨xk,xp,xn⟩:=x;dsimp only at h3;subst h3;have HM:=hid hmd;have HK:=hid hk;have HIH:=hid ih;have HR:=hid h;have H0:=hid h0;have HL:=hid hL;clear hk hmd hl hd hx hlen hok ih hin h h0;go_enter Tryz.func91,Tryz.ntmps91;go_wp2_with fail;refine(rkids_new (some ad) n cap l (p:Int) w (HR.out.more hB) hc hn (by omega) (by omega)).mono ?_;rw[HK.out];rintro e w1⟨A1,n1,c1,rfl,hr1,hc1,hb1,hnew⟩;have hn1:n1=m:=by have:=hr1.len;simp[plc] at this;omega
   subst hn1;have hw1:=H0.out.below rfl hb1;have hs1:=hb1.size;have HFAR:Hid (∀ ad,A1=some ad→some ad.block≠obk A0):=hid fun ad' e'=>by
    have h1:=hnew ad' e';intro e2;have h2:=H0.out.older e2.symm;omega
   have HW1:=hid hw1;have HR1:=hid hr1;clear hw1 hnew hr1 c0' c1' c2';go_wp2_with fail;go_loopw [2,63] (fun o s wr=>∃(i:Nat) (Ao:Option Addr) (co:Nat) (Li:List Rn),i≤n1∧s=.int .i64 i∧o=.slice Ao (L++Li).length co∧Li++(F.dr i k).lvs=k.lvs∧OwnV 114 2 wr B Ao (L++Li).length co (rs (L++Li))∧Below B w wr∧Grew A0 Ao w1 wr) (fun _ s _=>n1 - (intOf s).toNat)
   case atStart=>exact⟨0,A0,c0,[],by omega,rfl,by rw[List.append_nil,HL.out],by simp[F.dr],by rw[List.append_nil,HL.out];exact HW1.out,hb1.mono hB,Grew.refl _ _⟩
   obtain⟨i,Ao,co,Li,hi,rfl,rfl,hLi,how,hb,hg⟩:=hrel;have HLI:=hid hLi;have HOW:=hid how;have HG:=hid hg;have hbs:=hb.size;clear hLi how hg;by_cases hlt:i < n1
   ·obtain⟨hd,hsz,hp1,hp2⟩:=HPD.out i (by omega);obtain⟨y,ky,r',ed⟩:=dr_cons (f:=k) (j:=i) (by have:=HM.out;omega);have hok':=dr_ok hkok.out.2.2.1 i;have ed2:=dr_succ ed;rw[ed] at hd hsz hok';have hky:ky.sz < M:=by simp only[F.sz] at hsz;omega
    have hlv:Li++(one y ky.lvs++r'.lvs)=k.lvs:=by have:=HLI.out;rw[ed] at this;exact this
    have hlen2:(L++Li).length+(one y ky.lvs).length≤1048576:=by
     have:=congrArg List.length hlv;simp only[List.length_append] at this ⊢;have:=HL.out;omega
    have hget:=plc_get l (p+1) n1 i hlt;have HED:=hid ed2;have HLV:=hid hlv;clear hsz ed ed2 hlv;generalize pos l (p+1) i=P at hd hp1 hp2 hget;obtain⟨adk,z,rfl,hadk,hz,hcell⟩:=HR1.out.at_ hlt;rw[hget] at hz;injection hz with hz;subst hz;have hcell2:wr.cell? (adk.add i)=some (.int .i64 (P:Int)):=by
     refine(World.cell?_of_block ?_).trans hcell;rw[add_block];exact HG.out.gb.block adk.block hadk (HFAR.out adk rfl)
    clear hget hcell;have hcall:=HIH.out P y ky r' _ wr Ao (L++Li).length co (L++Li) hky (HR.out.below hb) hok' hd (by omega) rfl HOW.out hlen2;have HCALL:=hid hcall;clear hcall hd hok' hlen2;generalize (L++Li).length=q at HCALL ⊢;go_wp2_with fail;refine HCALL.out.mono ?_;rintro e2 w4⟨A4,c4,rfl,how4,hb4,hg4⟩;have HOW4:=hid how4;have HG4:=hid hg4;clear how4 hg4;generalize hqd:(L++Li++one y ky.lvs).length=q4;have HQD:=hid hqd;clear hqd;go_wp2_with fail;go_roundw
    case rel=>exact⟨i+1,A4,c4,Li++one y ky.lvs,by omega,by go_num,by rw[← HQD.out,List.append_assoc],by rw[HED.out,List.append_assoc];exact HLV.out,by rw[← List.append_assoc];exact HOW4.out,hb.trans hb4,HG.out.trans HG4.out⟩
    simp[intOf];omega
   have hge:n1≤i:=by omega
   have e2:F.dr i k=.nil:=by rw[show i=k.cnt by have:=HM.out;omega];exact dr_all k
   have e3:Li=k.lvs:=by have:=HLI.out;rw[e2] at this;simpa [F.lvs] using this
   have HE3:=hid e3;clear e2 e3;generalize hqd:(L++Li).length=q;have HQD:=hid hqd;clear hqd;go_wp2_with fail;go_ret;have hw:=HOW.out;rw[HQD.out] at hw;exact MoreR.mk (L:=L++Li) (by rw[HE3.out]) HQD.out.symm hw hb ((Grew.bel hb1).trans HG.out)
  by_cases h4:x.k=4
  ·rw[lvs_rep h4] at hs ⊢;obtain⟨ad,x',rfl,hab,hx',hin,c0',c1',c2'⟩:=h.at_ hpn;rw[hx] at hx';injection hx' with hx';subst hx';obtain⟨xk,xp,xn⟩:=x;dsimp only at h4 hs;subst h4;have hn1:=fine_one hok.1;obtain⟨N,rfl⟩:=Int.eq_ofNat_of_zero_le (show 0≤xn by dsimp only at hn1;omega);have hN2:(N:Int)≤9223372036854775807:=hin.2.2.2;have hc':k.cnt=1:=hok.2.1;cases k with
   | nil=>simp[F.cnt] at hc'
   | cons y q r2 =>
    obtain rfl:r2=.nil:=F.cnt_zero (by simp only[F.cnt] at hc';omega);have e1:(F.cons y q .nil).lvs=one y q.lvs:=by simp[F.lvs]
    rw[Int.toNat_natCast,e1] at hs;simp only[Int.toNat_natCast,e1];have hq:q.sz < M:=by simp only[F.sz] at hM;omega
    have hok2:=hok.2.2.1;have HOK:=hid hok2;have HD:=hid hd;have HIH:=hid ih;have HR:=hid h;have H0:=hid h0;have HL:=hid hL;have hp63:(p:Int)≤1099511627776:=by omega
    have HX:=hid hx;clear h3 hk hd hx hlen hok hl ih hin h h0 hok2 hc' c2' e1 hn1 hM;generalize hsd:one y q.lvs=sl at hs ⊢;have HSD:=hid hsd;clear hsd;go_enter Tryz.func91,Tryz.ntmps91;go_wp2_with fail;clear c0' c1';go_loopw [2,7] (fun o s wr=>∃(i:Nat) (Ao:Option Addr) (co:Nat),i≤N∧s=.int .i64 i∧o=.slice Ao (L++reps i sl).length co∧OwnV 114 2 wr B Ao (L++reps i sl).length co (rs (L++reps i sl))∧Below B w wr∧Grew A0 Ao w wr) (fun _ s _=>N - (intOf s).toNat)
    case atStart=>exact⟨0,A0,c0,by omega,rfl,by simp[reps,HL.out],by simp only[reps,List.append_nil,HL.out];exact H0.out,Below.refl _ _,Grew.refl _ _⟩
    obtain⟨i,Ao,co,hi,rfl,rfl,how,hb,hg⟩:=hrel;have HOW:=hid how;have HG:=hid hg;have hbs:=hb.size;clear how hg;obtain⟨ad',x',e,_,hx',_,k0,k1,k2⟩:=(HR.out.below hb).at_ hpn;injection e with e;subst e;rw[HX.out] at hx';injection hx' with hx';subst hx';clear k0 k1;by_cases hlt:i < N
    ·have hlen2:(L++reps i sl).length+(one y q.lvs).length≤1048576:=by
      rw[HSD.out];have:=congrArg List.length (reps_split (i+1) N sl (by omega));rw[reps_more] at this;simp only[List.length_append] at this ⊢;have:=HL.out;omega
     have hcall:=HIH.out (p+1) y q .nil _ wr Ao (L++reps i sl).length co (L++reps i sl) hq (HR.out.below hb) HOK.out HD.out (by omega) rfl HOW.out hlen2;rw[HSD.out] at hcall;have HCALL:=hid hcall;clear hcall hlen2;generalize (L++reps i sl).length=q1 at HCALL ⊢;go_wp2_with fail;refine HCALL.out.mono ?_;rintro e2 w4⟨A4,c4,rfl,how4,hb4,hg4⟩;have HOW4:=hid how4;have HG4:=hid hg4;clear how4 hg4;generalize hqd:(L++reps i sl++sl).length=q4;have HQD:=hid hqd;clear hqd;go_wp2_with fail;go_roundw
     case rel=>exact⟨i+1,A4,c4,by omega,by go_num,by rw[← HQD.out,List.append_assoc,← reps_more],by rw[reps_more,← List.append_assoc];exact HOW4.out,hb.trans hb4,HG.out.trans HG4.out⟩
     simp[intOf];omega
    have hge:N≤i:=by omega
    have e3:i=N:=by omega
    have HE3:=hid e3;clear e3;generalize hqd:(L++reps i sl).length=q1;have HQD:=hid hqd;clear hqd;go_wp2_with fail;go_ret;have hw:=HOW.out;rw[HQD.out] at hw;exact MoreR.mk (L:=L++reps i sl) (by rw[HE3.out]) HQD.out.symm hw hb HG.out
  have hk0:k=.nil:=F.cnt_zero (by rw[hok.2.1];unfold kn;rw[if_neg h3,if_neg h4]);rw[lvs_leaf h3 h4];exact leaf1_any B A n cap l hc hn p x w h hx hok.1 h3 h4 hB A0 n0 c0 L hL h0 (by omega)
def os:List (Nat×Nat)→List Value
 | []=>[]
 | (a,t)::o=>os o++[.int .i64 (a:Int),.int .i64 (t:Int)]
theorem os_length(st:List (Nat×Nat)):(os st).length=st.length*2:=by
 induction st with
 | nil=>rfl
 | cons e o ih=>obtain⟨a,t⟩:=e;simp only[os,List.length_append,ih,List.length_cons,List.length_nil];omega
theorem os_last(a t:Nat)(o:List (Nat×Nat)):(os ((a,t)::o))[o.length*2]? = some (.int .i64 (a:Int))∧(os ((a,t)::o))[o.length*2+1]? = some (.int .i64 (t:Int)):=by
 have:=os_length o;constructor
 ·simp only[os];rw[List.getElem?_append_right (by omega),this,Nat.sub_self];rfl
 simp only[os];rw[List.getElem?_append_right (by omega),this,show o.length*2+1 - o.length*2=1 by omega];rfl
theorem os_set(a t:Nat)(o:List (Nat×Nat))(b:Nat):(os ((a,t)::o)).set (o.length*2) (.int .i64 (b:Int))=os ((b,t)::o):=by
 have:=os_length o;simp only[os];rw[List.set_append_right _ _ (by omega),this,Nat.sub_self];rfl
theorem os_dec(a t:Nat)(o:List (Nat×Nat))(h:1≤a):(os ((a,t)::o)).set (o.length*2) (.int .i64 ((a:Int) - 1))=os ((a - 1,t)::o):=by
 rw[show (a:Int) - 1=((a - 1:Nat):Int) by omega];exact os_set a t o (a - 1)
def OwnP(w:World)(B:Nat)(A:Option Addr)(n c:Nat)(st:List (Nat×Nat)):Prop:=n=st.length∧OwnV 174 2 w B A n c (os st)
theorem OwnP.nil(w:World)(B:Nat):OwnP w B none 0 0 []:=⟨rfl,OwnV.nil _ _ _ _⟩
theorem times_any(B:Nat)(A:Option Addr)(n c:Nat)(st:List (Nat×Nat))(w:World)(h:OwnP w B A n c st)(hn:n≤1099511627776):
  Calls Tryz.prog 133 #[.slice A n c] w fun e w'=>e=.returned (.int .i64 (times st:Nat))∧w=w':=by
 obtain⟨h0,h⟩:=h;cases st with
 | nil =>
  simp only[List.length_nil] at h0;subst h0;go_enter Tryz.func133,Tryz.ntmps133;go_wp2_with fail;go_ret;exact⟨rfl,rfl⟩
 | cons e o =>
  obtain⟨a,t⟩:=e;obtain⟨g,rfl,hg,hlt⟩:=h.block (by simp at h0;omega);have h1:=World.ownsRow.cellAt h (o.length*2+1) (by simp at h0;omega);rw[(os_last a t o).2] at h1;simp only[List.length_cons] at h0;generalize o.length=k at h0 h1;subst h0;clear h;have hk:((k:Int)+1 == 0)=false:=beq_eq_false_iff_ne.2 (by omega);go_enter Tryz.func133,Tryz.ntmps133;go_wp2_with fail;go_ret;exact⟨rfl,rfl⟩
theorem OwnV.front{E s:Nat}{w:World}{B:Nat}{A:Option Addr}{n c:Nat}{l:List Value}(h:OwnV E s w B A n c l)(m:Nat)(hm:m≤n):OwnV E s w B A m c (l.take (m*s)):=by
 have h0:m*s≤n*s:=Nat.mul_le_mul_right _ hm;refine⟨by rw[List.length_take,h.1];omega,?_⟩;rcases h.2 with ⟨hv,hz⟩ | ⟨g,cap,cur,hv,hbg,hg,hnc,hcm,hcs,ht⟩
 ·refine .inl ⟨?_,by omega⟩;simp only[Value.slice.injEq] at hv ⊢;exact⟨hv.1,by omega,hv.2.2⟩
 simp only[Value.slice.injEq] at hv;obtain⟨rfl,_,rfl⟩:=hv;refine .inr ⟨g,c,cur,rfl,hbg,hg,by omega,hcm,hcs,?_⟩;rw[← ht,List.take_take,Nat.min_eq_left h0]
theorem os_take(a t:Nat)(o:List (Nat×Nat)):(os ((a,t)::o)).take (o.length*2)=os o:=by
 simp only[os];exact List.take_left' (os_length o)
def Paths(B:Nat)(w:World)(st:List (Nat×Nat))(e:Ending)(w':World):Prop:=∃ A n c,e=.returned (.slice A n c)∧OwnP w' B A n c st∧Below B w w'
theorem pops_more{a t:Nat}{o:List (Nat×Nat)}(h:1 < a):pops ((a,t)::o)=(a - 1,t)::o:=by simp only[pops];rw[if_pos h]
theorem pops_less{a t:Nat}{o:List (Nat×Nat)}(h:¬ 1 < a):pops ((a,t)::o)=pops o:=by simp only[pops];rw[if_neg h]
theorem behind_leaf(B:Nat)(A:Option Addr)(n c:Nat)(st:List (Nat×Nat))(k p z:Int)(w:World)(h:OwnP w B A n c st)(hB:B≤w.heap.size)(hn:n≤1099511627776)(h3:¬ k=3)(h4:¬ k=4)(ha:∀ e∈st,1≤e.1∧e.1≤1099511627776):
  Calls Tryz.prog 130 #[.slice A n c,nd k p z] w (Paths B w (pops st)):=by
 have h3':(k == 3)=false:=beq_eq_false_iff_ne.2 h3;have h4':(k == 4)=false:=beq_eq_false_iff_ne.2 h4;have hbl:Below B w (w.alloc (.cells #[.int .i64 k,.int .i64 p,.int .i64 z] 70)):=(Below.refl _ _).alloc hB _;have hal:OwnV 174 2 (w.alloc (.cells #[.int .i64 k,.int .i64 p,.int .i64 z] 70)) B A n c (os st):=h.2.below rfl (bl1 _ _);obtain⟨h0,_⟩:=h;have H0:=hid h0;have HA:=hid ha;clear h3 h4 h0 ha;go_enter Tryz.func130,Tryz.ntmps130;go_wp2_with fail;go_loopw [0,5] (fun q _ wr=>∃(m:Nat) (st':List (Nat×Nat)),q=.slice A m c∧m≤1099511627776∧OwnP wr B A m c st'∧pops st'=pops st∧(∀ e∈st',1≤e.1∧e.1≤1099511627776)∧Below B w wr) (fun q _ _=>lenOf q)
 case atStart=>exact⟨n,st,rfl,hn,⟨H0.out,hal⟩,rfl,HA.out,hbl⟩
 obtain⟨m,st',rfl,hm,⟨hm0,hw⟩,hp,ha,hb⟩:=hrel;have HP:=hid hp;have HA':=hid ha;clear hp ha hal hbl;cases st' with
 | nil =>
  simp only[List.length_nil] at hm0;subst hm0;go_wp2_with fail;go_ret;exact⟨A,0,c,rfl,by rw[← HP.out];exact⟨rfl,hw⟩,hb⟩
 | cons e o =>
  obtain⟨a,t⟩:=e;obtain⟨ha1,ha2⟩:=HA'.out (a,t) (by simp);dsimp only at ha1 ha2;obtain⟨g,rfl,hg,hlt⟩:=hw.block (by simp at hm0;omega);have c0:=World.ownsRow.cellAt hw (o.length*2) (by simp at hm0;omega);rw[(os_last a t o).1] at c0;have hfree:=World.ownsRow.frozenAt hw (o.length*2);have hst:=(World.ownsRow.stored hw (o.length*2) (.int .i64 ((a:Int) - 1))).1;rw[os_dec a t o ha1] at hst;have hbs:=hb.setCell (p:=⟨g,o.length*2,none⟩) hg (.int .i64 ((a:Int) - 1));have hfr:OwnV 174 2 _ B _ _ c _:=OwnV.front hst o.length (by simp at hm0;omega);rw[os_take] at hfr;have hcap:=hw.cap;simp only[List.length_cons] at hm0;generalize hod:o.length=q at hm0 c0 hfree hst hbs hfr;have HOD:=hid hod;clear hod hw;subst hm0;by_cases h1:1 < a
  ·go_wp2_with fail;go_ret;exact⟨_,q+1,c,rfl,by rw[← HP.out,pops_more h1];exact⟨by simp[HOD.out],hst⟩,hbs⟩
  have h1':a≤1:=by omega
  go_wp2_with fail;go_roundw
  case rel=>exact⟨q,o,rfl,by omega,⟨HOD.out.symm,hfr⟩,by rw[← HP.out,pops_less (by omega)],fun e he=>HA'.out e (by simp[he]),hbs⟩
  simp[lenOf]
theorem run_push(w:World)(B:Nat)(A:Option Addr)(n c:Nat)(st:List (Nat×Nat))(N T:Nat)(h:OwnP w B A n c st)(hn:n≤1099511627776)(hB:B≤w.heap.size)(g:Nat)
  (c0:w.cell? ⟨g,0,none⟩=some (.int .i64 (N:Int))) (c1:w.cell? ⟨g,1,none⟩=some (.int .i64 (T:Int))) :
  ∃ A' c' w',(Builtin.append_ #[158,158] 158 #[.slice A n c,.slice (some ⟨g,0,none⟩) 1 1]).run Tryz.prog w=.ok (.slice A' (n+1) c') w'∧OwnP w' B A' (n+1) c' ((N,T)::st)∧Below B w w'∧OwnP w' B A n c st ∧
   ∀ k,(∀ g',A=some ⟨g',0,none⟩→k≠g')→k < w.heap.size→w'.heap[k]? = w.heap[k]?:=by
 obtain⟨h0,h⟩:=h
 have hc:∀ j u,([.int .i64 (N:Int),.int .i64 (T:Int)]:List Value)[j]? = some u→w.cell? ((⟨g,0,none⟩:Addr).add j)=some u:=by
  intro j u hu
  match j,hu with
  | 0,hu=>simp at hu;subst hu;exact c0
  | 1,hu=>simp at hu;subst hu;exact c1
 have hone:∀ u∈([.int .i64 (N:Int),.int .i64 (T:Int)]:List Value),u.oneCell'=true:=by
  intro u hu
  simp at hu
  rcases hu with rfl | rfl <;> rfl
 have hlen:((N,T)::st).length=st.length+1:=rfl
 cases A with
 | none =>
  have hgl:g < w.heap.size:=World.block_lt_of_cell? w _ c0
  obtain⟨A',c',w',h1,h2,h3,h4⟩:=run_appV elO w B none n c (os st) h (some ⟨g,0,none⟩) 1 1 [.int .i64 (N:Int),.int .i64 (T:Int)] w.heap.size (fun _=>⟨_,rfl,hgl,hc⟩) rfl hone (by omega) (by unfold maxLen;omega) hB
  refine⟨A',c',w',h1,⟨by rw[hlen,h0],h2⟩,h3,⟨h0,?_⟩,fun k _ hk=>h4 0 (fun g' hg'=>by cases hg') k (Nat.zero_le _) hk⟩
  exact h.keep fun b _ hb=>h4 0 (fun g' hg'=>by cases hg') b (Nat.zero_le _) hb
 | some ad =>
  have e:∃ g',ad=⟨g',0,none⟩:=by
   rcases h.2 with ⟨hv,_⟩ | ⟨g',cap,cur,hv,_⟩
   ·cases hv
   ·injection hv with h1;injection h1 with h1;exact⟨g',h1⟩
  obtain⟨g',rfl⟩:=e
  obtain⟨A',c',w',h1,h2,h3,h4,h5⟩:=run_appK elO w B g' n c (os st) h ⟨g,0,none⟩ 1 1 [.int .i64 (N:Int),.int .i64 (T:Int)] hc rfl hone (by omega) (by unfold maxLen;omega) hB
  exact⟨A',c',w',h1,⟨by rw[hlen,h0],h2⟩,h3,⟨h0,h4⟩,fun k hk hlt=>h5 k (hk g' rfl) hlt⟩
def LitP(bx N T:Nat)(v:Value)(w:World):Prop:=∃ g,v=.slice (some ⟨g,0,none⟩) 1 1∧bx < g∧g < w.heap.size∧w.cell? ⟨g,0,none⟩=some (.int .i64 (N:Int))∧w.cell? ⟨g,1,none⟩=some (.int .i64 (T:Int))
def PushP(B n:Nat)(st:List (Nat×Nat))(v:Value)(w:World):Prop:=∃ A' c',v=.slice A' (n+1) c'∧OwnP w B A' (n+1) c' st
structure PushW(B:Nat)(A:Option Addr)(n c:Nat)(st:List (Nat×Nat))(bx:Nat)(z:Int)(w0 w:World):Prop where
 bel:Below B w0 w
 own:OwnP w B A n c st
 cell:w.cell? ⟨bx,2,none⟩=some (.int .i64 z)
 lt:bx < w.heap.size
 low:∀ g,A=some ⟨g,0,none⟩→g < bx
theorem OwnP.keep{w w':World}{B n c:Nat}{A:Option Addr}{st:List (Nat×Nat)}(h:OwnP w B A n c st)(hk:∀ b,B≤b→b < w.heap.size→w'.heap[b]? = w.heap[b]?):OwnP w' B A n c st:=⟨h.1,h.2.keep hk⟩
theorem cell_block{w w':World}{g o:Nat}(h:w'.heap[g]? = w.heap[g]?):w'.cell? ⟨g,o,none⟩=w.cell? ⟨g,o,none⟩:=World.cell?_of_block h
theorem LitP.keep{bx N T:Nat}{v:Value}{w w':World}(h:LitP bx N T v w)(hs:w.heap.size≤w'.heap.size)(hk:∀ k,bx < k→k < w.heap.size→w'.heap[k]? = w.heap[k]?):LitP bx N T v w':=by
 obtain⟨g,e,h1,h2,h3,h4⟩:=h;have:=hk g h1 h2;exact⟨g,e,h1,by omega,(cell_block this).trans h3,(cell_block this).trans h4⟩
theorem PushP.keep{B n:Nat}{st:List (Nat×Nat)}{v:Value}{w w':World}(h:PushP B n st v w)(hk:∀ k,k < w.heap.size→w'.heap[k]? = w.heap[k]?):PushP B n st v w':=by
 obtain⟨A',c',e,h⟩:=h;exact⟨A',c',e,h.keep fun b _ hb=>hk b hb⟩
theorem PushW.alloc{B:Nat}{A:Option Addr}{n c:Nat}{st:List (Nat×Nat)}{bx:Nat}{z:Int}{w0 w:World}(h:PushW B A n c st bx z w0 w)(hB:B≤w0.heap.size)(o:Obj):PushW B A n c st bx z w0 (w.alloc o):=by
 have hs:=h.bel.size;refine⟨h.bel.alloc (by omega) o,h.own.keep fun b _ hb=>Below.heap_alloc w o b hb,?_,by simp;have:=h.lt;omega,h.low⟩;exact(cell_block (Below.heap_alloc w o bx h.lt)).trans h.cell
theorem built_pair(x y:Int):Tryz.prog.built 174 [(0,.int .i64 x),(1,.int .i64 y)]=some #[.int .i64 x,.int .i64 y]:=by
 rfl
theorem hl_hold(a b h:Nat)(e:hold a b=h):hl (a:Int) (b:Int)=(h:Int):=by
 rw[← e];unfold hl hold;rw[← Int.natCast_mul];split <;> split <;> omega
def SqV(B:Nat)(A:Option Addr)(n c:Nat)(st:List (Nat×Nat))(bx N T:Nat)(j:Nat)(v:Value)(w:World):Prop :=
 match j with
 | 0=>v=.slice A n c
 | 1=>v=.pointer (some ⟨bx,2,none⟩)
 | 2=>v=.int .i64 (N:Int)
 | 3=>v=.slice A n c
 | 4=>v=.int .i64 (T:Int)
 | 5=>v=.agg #[.int .i64 (N:Int),.int .i64 (T:Int)]
 | 6=>LitP bx N T v w
 | 7=>PushP B n ((N,T)::st) v w
 | 8=>PushP B n ((N,T)::st) v w
 | _=>True
theorem SqV.keep{B:Nat}{A:Option Addr}{n c:Nat}{st:List (Nat×Nat)}{bx N T:Nat}{w w':World}(hs:w.heap.size≤w'.heap.size)(hk:∀ k,k < w.heap.size→w'.heap[k]? = w.heap[k]?)(j:Nat)(v:Value)(h:SqV B A n c st bx N T j v w):SqV B A n c st bx N T j v w':=by
 unfold SqV at h ⊢;split at h <;> first | exact h | exact LitP.keep h hs (fun k _ hk'=>hk k hk') | exact PushP.keep h hk
theorem SqV.push{B:Nat}{A:Option Addr}{n c:Nat}{st:List (Nat×Nat)}{bx N T:Nat}{w w':World}(hlow:∀ g,A=some ⟨g,0,none⟩→g < bx)(hs:w.heap.size≤w'.heap.size)(hk:∀ k,(∀ g',A=some ⟨g',0,none⟩→k≠g')→k < w.heap.size→w'.heap[k]? = w.heap[k]?)(j:Nat)(hj:j≠7)(hj2:j≠8)(v:Value)(h:SqV B A n c st bx N T j v w):SqV B A n c st bx N T j v w':=by
 unfold SqV at h ⊢;split at h <;> first | exact h | exact LitP.keep h hs (fun k hk1 hk'=>hk k (fun g' hg'=>by have:=hlow g' hg';omega) hk') | (exact absurd rfl hj) | (exact absurd rfl hj2)
theorem behind_seq(B:Nat)(A:Option Addr)(n c:Nat)(st:List (Nat×Nat))(p:Int)(N:Nat)(w:World)(h:OwnP w B A n c st)(hB:B≤w.heap.size)(hn:n≤1099511627776):
  Calls Tryz.prog 130 #[.slice A n c,nd 3 p (N:Int)] w (Paths B w ((N,times st)::st)):=by
 generalize hTd:times st=T;have HT:Hid (times st=T):=hid hTd;clear hTd;have hlow:∀ g,A=some ⟨g,0,none⟩→g < w.heap.size:=fun g hg=>by
  rcases h.2.2 with ⟨hv,_⟩ | ⟨g',cap,cur,hv,_,hg',_⟩
  ·rw[hg] at hv;cases hv
  rw[hg] at hv;injection hv with h1;injection h1 with h1;injection h1 with h1;rw[h1];exact(Array.getElem?_eq_some_iff.1 hg').1
 have hw0:PushW B A n c st w.heap.size (N:Int) w (w.alloc (.cells #[.int .i64 3,.int .i64 p,.int .i64 (N:Int)] 70)) :=
  ⟨(Below.refl _ _).alloc hB _,h.keep fun b _ hb=>Below.heap_alloc w _ b hb,by simp[World.cell?_alloc_mark],by simp,hlow⟩
 have hB0:=hB;clear h hlow;have HW:=hid hw0;clear hw0;go_enter Tryz.func130,Tryz.ntmps130;go_wp2_with fail;have hw0:=HW.out;clear HW;generalize w.alloc (.cells #[.int .i64 3,.int .i64 p,.int .i64 (N:Int)] 70)=ws at hw0 ⊢;generalize w.heap.size=bx at hw0 ⊢;refine Reg.region (by kernel_rfl) (by kernel_rfl) (SqV B A n c st bx N T) (PushW B A n c st bx (N:Int) w) ⟨hw0.bel.drew,hw0.own,hw0.cell,hw0.lt,hw0.low⟩ (Reg.steps_of ?_) ?_
 ·refine⟨?_,?_,?_,?_,?_,?_,?_,?_,?_,trivial⟩<;>intro a w1 E D hW
  ·have e0:a.eval (.tmp 0)=.slice A n c:=E 0 rfl;exact Reg.val rfl (Reg.wanted_free rfl) hW (.slice A n c) (by have c:=Reg.consts a;generalize a.eval=ρ at *;simp[go_sem,c.1,c.2,e0]) rfl
  ·have e3:a.eval (.tmp 3)=.pointer (some ⟨bx,0,none⟩):=E 3 rfl;exact Reg.val rfl (Reg.wanted_free rfl) hW (.pointer (some ⟨bx,2,none⟩)) (by have c:=Reg.consts a;generalize a.eval=ρ at *;simp[go_sem,c.1,c.2,e3]) rfl
  ·have d1:a.eval (.tmp 11)=.pointer (some ⟨bx,2,none⟩):=D 1 rfl;have hc:=hW.cell;exact Reg.val rfl (Reg.wanted_free rfl) hW (.int .i64 (N:Int)) (by have c:=Reg.consts a;generalize a.eval=ρ at *;simp[go_sem,c.1,c.2,d1,hc]) rfl
  ·have e0:a.eval (.tmp 0)=.slice A n c:=E 0 rfl;exact Reg.val rfl (Reg.wanted_free rfl) hW (.slice A n c) (by have c:=Reg.consts a;generalize a.eval=ρ at *;simp[go_sem,c.1,c.2,e0]) rfl
  ·have d3:a.eval (.tmp 13)=.slice A n c:=D 3 rfl;refine Reg.call rfl (Reg.wanted_free rfl) 133 #[.slice A n c] (by have c:=Reg.consts a;generalize a.eval=ρ at *;simp[go_sem,c.1,c.2,d3]) ?_;refine(times_any B A n c st w1 hW.own hn).mono ?_;rintro e w2⟨rfl,rfl⟩;exact⟨_,rfl,HT.out▸rfl,hW,fun _ _ h=>h⟩
  ·have d2:a.eval (.tmp 12)=.int .i64 (N:Int):=D 2 rfl;have d4:a.eval (.tmp 14)=.int .i64 (T:Int):=D 4 rfl;have hbd:=built_pair (N:Int) (T:Int);exact Reg.val rfl (Reg.wanted_free rfl) hW (.agg #[.int .i64 (N:Int),.int .i64 (T:Int)]) (by have c:=Reg.consts a;generalize a.eval=ρ at *;simp[execOp,go_sem,c.1,c.2,d2,d4,hbd]) rfl
  ·have d5:a.eval (.tmp 15)=.agg #[.int .i64 (N:Int),.int .i64 (T:Int)]:=D 5 rfl;refine Reg.grow rfl (Reg.wanted_free rfl) (.slice (some ⟨w1.heap.size,0,none⟩) 1 1) (w1.alloc (.cells #[.int .i64 (N:Int),.int .i64 (T:Int)] 174)) ?_ ?_ (hW.alloc hB0 _) (fun j v _ h=>SqV.keep (by simp) (fun k hk=>Below.heap_alloc w1 _ k hk) j v h)
   ·have c:=Reg.consts a;generalize a.eval=ρ at *;simp[execOp,go_sem,c.1,c.2,d5]
   exact⟨w1.heap.size,rfl,hW.lt,by simp,by simp[World.cell?_alloc_mark],by simp[World.cell?_alloc_mark]⟩
  ·have d0:a.eval (.tmp 10)=.slice A n c:=D 0 rfl;obtain⟨g,d6,hg1,hg2,hg3,hg4⟩:LitP bx N T (a.eval (.tmp 16)) w1:=D 6 rfl;have hB1:B≤w1.heap.size:=by have:=hW.bel.size;omega
   obtain⟨A',c',w',hrun,h1,h2,h3,h4⟩:=run_push w1 B A n c st N T hW.own hn hB1 g hg3 hg4;have hs:=h2.size;refine Reg.growL rfl (Reg.wanted_free rfl) (.slice A' (n+1) c') w' ?_ ⟨A',c',rfl,h1⟩ ⟨hW.bel.trans h2,h3,(cell_block (h4 bx (fun g' hg'=>by have:=hW.low g' hg';omega) hW.lt)).trans hW.cell,by have:=hW.lt;omega,hW.low⟩ ?_
   ·have c:=Reg.consts a;generalize a.eval=ρ at *;simp only[execOp,resolve,invoke,builtin,Sem.run_bind,Sem.run_pure,Result.andThen_ok,List.map_toArray,List.map_cons,List.map_nil,d0,d6,hrun]
   intro live hcl h0 j v hj hv;refine SqV.push hW.low hs h4 j ?_ ?_ v hv
   ·rintro rfl;rw[h0] at hj;cases hj
   rintro rfl;have:=Reg.not_live hcl h0 (j:=8) rfl rfl;rw[this] at hj;cases hj
  obtain⟨A',c',d7,h1⟩:PushP B n ((N,T)::st) (a.eval (.tmp 17)) w1:=D 7 rfl;exact Reg.val rfl (Reg.wanted_free rfl) hW (.slice A' (n+1) c') (by have c:=Reg.consts a;generalize a.eval=ρ at *;simp[go_sem,c.1,c.2,d7]) ⟨A',c',rfl,h1⟩
 intro a w3 hs hd E D hW;obtain⟨A',c',d8,h1⟩:PushP B n ((N,T)::st) (a.eval (.tmp 4)) w3:=D 8 (by decide);have hb3:=hW.bel;rw[Reg.act_lit a 53 hs,hd];simp only[List.range,List.range.loop,List.map,d8];clear E D d8 hW hw0;generalize a.eval=ρ;clear a hs hd;go_wp2_with fail;go_ret;exact⟨A',n+1,c',rfl,h1,hb3⟩
def RpV(B:Nat)(A:Option Addr)(n c:Nat)(st:List (Nat×Nat))(bx N T H:Nat)(j:Nat)(v:Value)(w:World):Prop :=
 match j with
 | 0=>v=.slice A n c
 | 1=>v=.pointer (some ⟨bx,2,none⟩)
 | 2=>v=.int .i64 (N:Int)
 | 3=>v=.slice A n c
 | 4=>v=.int .i64 (T:Int)
 | 5=>v=.int .i64 (H:Int)
 | 6=>v=.agg #[.int .i64 1,.int .i64 (H:Int)]
 | 7=>LitP bx 1 H v w
 | 8=>PushP B n ((1,H)::st) v w
 | 9=>PushP B n ((1,H)::st) v w
 | _=>True
theorem RpV.keep{B:Nat}{A:Option Addr}{n c:Nat}{st:List (Nat×Nat)}{bx N T H:Nat}{w w':World}(hs:w.heap.size≤w'.heap.size)(hk:∀ k,k < w.heap.size→w'.heap[k]? = w.heap[k]?)(j:Nat)(v:Value)(h:RpV B A n c st bx N T H j v w):RpV B A n c st bx N T H j v w':=by
 unfold RpV at h ⊢;split at h <;> first | exact h | exact LitP.keep h hs (fun k _ hk'=>hk k hk') | exact PushP.keep h hk
theorem RpV.push{B:Nat}{A:Option Addr}{n c:Nat}{st:List (Nat×Nat)}{bx N T H:Nat}{w w':World}(hlow:∀ g,A=some ⟨g,0,none⟩→g < bx)(hs:w.heap.size≤w'.heap.size)(hk:∀ k,(∀ g',A=some ⟨g',0,none⟩→k≠g')→k < w.heap.size→w'.heap[k]? = w.heap[k]?)(j:Nat)(hj:j≠8)(hj2:j≠9)(v:Value)(h:RpV B A n c st bx N T H j v w):RpV B A n c st bx N T H j v w':=by
 unfold RpV at h ⊢;split at h <;> first | exact h | exact LitP.keep h hs (fun k hk1 hk'=>hk k (fun g' hg'=>by have:=hlow g' hg';omega) hk') | (exact absurd rfl hj) | (exact absurd rfl hj2)
theorem behind_rep(B:Nat)(A:Option Addr)(n c:Nat)(st:List (Nat×Nat))(p:Int)(N:Nat)(w:World)(h:OwnP w B A n c st)(hB:B≤w.heap.size)(hn:n≤1099511627776)(hN:1≤N)(hN2:N≤9223372036854775807)(hT1:1≤times st)(hT2:times st≤4097):
  Calls Tryz.prog 130 #[.slice A n c,nd 4 p (N:Int)] w (Paths B w ((1,hold N (times st))::st)):=by
 generalize hTd:times st=T at hT1 hT2 ⊢;generalize hHd:hold N T=H;have HT:Hid (times st=T):=hid hTd;have HH:Hid (hl (N:Int) (T:Int)=(H:Int)):=hid (hl_hold N T H hHd);clear hHd;clear hTd;have hlow:∀ g,A=some ⟨g,0,none⟩→g < w.heap.size:=fun g hg=>by
  rcases h.2.2 with ⟨hv,_⟩ | ⟨g',cap,cur,hv,_,hg',_⟩
  ·rw[hg] at hv;cases hv
  rw[hg] at hv;injection hv with h1;injection h1 with h1;injection h1 with h1;rw[h1];exact(Array.getElem?_eq_some_iff.1 hg').1
 have hw0:PushW B A n c st w.heap.size (N:Int) w (w.alloc (.cells #[.int .i64 4,.int .i64 p,.int .i64 (N:Int)] 70)) :=
  ⟨(Below.refl _ _).alloc hB _,h.keep fun b _ hb=>Below.heap_alloc w _ b hb,by simp[World.cell?_alloc_mark],by simp,hlow⟩
 have hB0:=hB;clear h hlow;have HW:=hid hw0;clear hw0;go_enter Tryz.func130,Tryz.ntmps130;go_wp2_with fail;have hw0:=HW.out;clear HW;generalize w.alloc (.cells #[.int .i64 4,.int .i64 p,.int .i64 (N:Int)] 70)=ws at hw0 ⊢;generalize w.heap.size=bx at hw0 ⊢;refine Reg.region (by kernel_rfl) (by kernel_rfl) (RpV B A n c st bx N T H) (PushW B A n c st bx (N:Int) w) ⟨hw0.bel.drew,hw0.own,hw0.cell,hw0.lt,hw0.low⟩ (Reg.steps_of ?_) ?_
 ·refine⟨?_,?_,?_,?_,?_,?_,?_,?_,?_,?_,trivial⟩<;>intro a w1 E D hW
  ·have e0:a.eval (.tmp 0)=.slice A n c:=E 0 rfl;exact Reg.val rfl (Reg.wanted_free rfl) hW (.slice A n c) (by have c:=Reg.consts a;generalize a.eval=ρ at *;simp[go_sem,c.1,c.2,e0]) rfl
  ·have e3:a.eval (.tmp 3)=.pointer (some ⟨bx,0,none⟩):=E 3 rfl;exact Reg.val rfl (Reg.wanted_free rfl) hW (.pointer (some ⟨bx,2,none⟩)) (by have c:=Reg.consts a;generalize a.eval=ρ at *;simp[go_sem,c.1,c.2,e3]) rfl
  ·have d1:a.eval (.tmp 21)=.pointer (some ⟨bx,2,none⟩):=D 1 rfl;have hc:=hW.cell;exact Reg.val rfl (Reg.wanted_free rfl) hW (.int .i64 (N:Int)) (by have c:=Reg.consts a;generalize a.eval=ρ at *;simp[go_sem,c.1,c.2,d1,hc]) rfl
  ·have e0:a.eval (.tmp 0)=.slice A n c:=E 0 rfl;exact Reg.val rfl (Reg.wanted_free rfl) hW (.slice A n c) (by have c:=Reg.consts a;generalize a.eval=ρ at *;simp[go_sem,c.1,c.2,e0]) rfl
  ·have d3:a.eval (.tmp 23)=.slice A n c:=D 3 rfl;refine Reg.call rfl (Reg.wanted_free rfl) 133 #[.slice A n c] (by have c:=Reg.consts a;generalize a.eval=ρ at *;simp[go_sem,c.1,c.2,d3]) ?_;refine(times_any B A n c st w1 hW.own hn).mono ?_;rintro e w2⟨rfl,rfl⟩;exact⟨_,rfl,HT.out▸rfl,hW,fun _ _ h=>h⟩
  ·have d2:a.eval (.tmp 22)=.int .i64 (N:Int):=D 2 rfl;have d4:a.eval (.tmp 24)=.int .i64 (T:Int):=D 4 rfl;refine Reg.call rfl (Reg.wanted_free rfl) 132 #[.int .i64 (N:Int),.int .i64 (T:Int)] (by have c:=Reg.consts a;generalize a.eval=ρ at *;simp[go_sem,c.1,c.2,d2,d4]) ?_;refine(held_any (N:Int) (T:Int) w1 (by omega) (by omega) (by omega) (by omega)).mono ?_;rintro e w2⟨rfl,rfl⟩;exact⟨_,rfl,HH.out▸rfl,hW,fun _ _ h=>h⟩
  ·have d5:a.eval (.tmp 25)=.int .i64 (H:Int):=D 5 rfl;have hbd:=built_pair 1 (H:Int);exact Reg.val rfl (Reg.wanted_free rfl) hW (.agg #[.int .i64 1,.int .i64 (H:Int)]) (by have c:=Reg.consts a;generalize a.eval=ρ at *;simp[execOp,go_sem,c.1,c.2,d5,hbd]) rfl
  ·have d6:a.eval (.tmp 26)=.agg #[.int .i64 1,.int .i64 (H:Int)]:=D 6 rfl;refine Reg.grow rfl (Reg.wanted_free rfl) (.slice (some ⟨w1.heap.size,0,none⟩) 1 1) (w1.alloc (.cells #[.int .i64 1,.int .i64 (H:Int)] 174)) ?_ ?_ (hW.alloc hB0 _) (fun j v _ h=>RpV.keep (by simp) (fun k hk=>Below.heap_alloc w1 _ k hk) j v h)
   ·have c:=Reg.consts a;generalize a.eval=ρ at *;simp[execOp,go_sem,c.1,c.2,d6]
   exact⟨w1.heap.size,rfl,hW.lt,by simp,by simp[World.cell?_alloc_mark],by simp[World.cell?_alloc_mark]⟩
  ·have d0:a.eval (.tmp 20)=.slice A n c:=D 0 rfl;obtain⟨g,d7,hg1,hg2,hg3,hg4⟩:LitP bx 1 H (a.eval (.tmp 27)) w1:=D 7 rfl;have hB1:B≤w1.heap.size:=by have:=hW.bel.size;omega
   obtain⟨A',c',w',hrun,h1,h2,h3,h4⟩:=run_push w1 B A n c st 1 H hW.own hn hB1 g hg3 hg4;have hs:=h2.size;refine Reg.growL rfl (Reg.wanted_free rfl) (.slice A' (n+1) c') w' ?_ ⟨A',c',rfl,h1⟩ ⟨hW.bel.trans h2,h3,(cell_block (h4 bx (fun g' hg'=>by have:=hW.low g' hg';omega) hW.lt)).trans hW.cell,by have:=hW.lt;omega,hW.low⟩ ?_
   ·have c:=Reg.consts a;generalize a.eval=ρ at *;simp only[execOp,resolve,invoke,builtin,Sem.run_bind,Sem.run_pure,Result.andThen_ok,List.map_toArray,List.map_cons,List.map_nil,d0,d7,hrun]
   intro live hcl h0 j v hj hv;refine RpV.push hW.low hs h4 j ?_ ?_ v hv
   ·rintro rfl;rw[h0] at hj;cases hj
   rintro rfl;have:=Reg.not_live hcl h0 (j:=9) rfl rfl;rw[this] at hj;cases hj
  obtain⟨A',c',d8,h1⟩:PushP B n ((1,H)::st) (a.eval (.tmp 28)) w1:=D 8 rfl;exact Reg.val rfl (Reg.wanted_free rfl) hW (.slice A' (n+1) c') (by have c:=Reg.consts a;generalize a.eval=ρ at *;simp[go_sem,c.1,c.2,d8]) ⟨A',c',rfl,h1⟩
 intro a w3 hs hd E D hW;obtain⟨A',c',d9,h1⟩:PushP B n ((1,H)::st) (a.eval (.tmp 4)) w3:=D 9 (by decide);have hb3:=hW.bel;rw[Reg.act_lit a 53 hs,hd];simp only[List.range,List.range.loop,List.map,d9];clear E D d9 hW hw0;generalize a.eval=ρ;clear a hs hd;go_wp2_with fail;go_ret;exact⟨A',n+1,c',rfl,h1,hb3⟩
end Go.Proofs.YtdkngfdnfekgfaaGreat
