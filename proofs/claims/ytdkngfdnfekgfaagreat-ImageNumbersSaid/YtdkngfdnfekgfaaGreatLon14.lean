import Derived.Test.YtdkngfdnfekgfaaGreatLon13
set_option maxHeartbeats 4000000
set_option maxRecDepth 100000
set_option linter.unusedSimpArgs false
set_option linter.unusedVariables false
namespace Go.Proofs.YtdkngfdnfekgfaaGreat
open Go.RowKit Tab
theorem rtidy_any(A:Option Addr)(n cap:Nat)(L:List Rn)(w:World)(h:RdR w w.heap.size A n L)(hc:n≤cap)(hn:n≤1048576)(ht:ticks L≤1099511627776):
  Calls Tryz.prog 66 #[.slice A n cap] w (MadeR (tidy L) w):=by
 go_enter Tryz.func66,Tryz.ntmps66;go_wp2_with fail;go_loopw [3,9] (fun q s wr=>∃(i m c':Nat) (A':Option Addr),i≤n∧s=.int .i64 i∧q=.slice A' m c'∧m≤i∧OwnV 114 2 wr w.heap.size A' m c' (rs (tidy (L.take i)))∧Below w.heap.size w wr) (fun _ s _=>n - (intOf s).toNat)
 case atStart=>exact⟨0,0,0,none,by omega,rfl,rfl,by omega,by simpa [tidy,tidyOn,rs] using OwnV.nil _ _ _ _,Below.refl _ _⟩
 obtain⟨i,m,c',A',hi,rfl,rfl,hm,how,hb⟩:=hrel;have HOW:=hid how;clear how;by_cases hlt:i < n
 ·obtain⟨ad,r,rfl,had,hr,c0,c1⟩:=(h.on hb).at_ hlt;have hmore:=tidy_more hr;have hcs:=tpush_cases (tidy (L.take i)) r;rw[← hmore] at hcs;have hbl:=bl1 wr (.cells #[.int .i64 r.p,.int .i64 (r.n:Int)] 114);have hb1:=hb.trans (hbl.mono hb.size);have hle:=tidy_take_le L (i+1);have how1:=HOW.out.below rfl hbl;have hsum:∀ o y,tidy (L.take i)=o++[y]→y.n+r.n≤ticks L:=fun o y e=>tidy_one hr e;generalize tidy (L.take i)=T at HOW hcs how1 hsum;generalize hT1:tidy (L.take (i+1))=T1 at hcs hle;have HT1:=hid hT1;have HB1:=hid hb1;clear hT1 hmore hr hbl hb1 HOW;rcases hcs with ⟨h0,e⟩ | ⟨h0,e0,e⟩ | ⟨o,y,h0,e0,hp,e⟩ | ⟨o,y,h0,e0,hp,e⟩
  ·have hr1:(r.n:Int) < 1:=by omega
   subst e;have HOW1:=hid how1;clear how1 hsum h0;go_wp2_with fail;go_roundw
   case rel=>exact⟨i+1,m,c',A',by omega,by go_num,rfl,by omega,by rw[HT1.out];exact HOW1.out,HB1.out⟩
   simp[intOf];omega
  ·subst e0;have hm0:m=0:=by have:=how1.len;simp[rs] at this;omega
   subst hm0;have hr1:¬ (r.n:Int) < 1:=by omega
   subst e;clear hsum h0;go_wp2_with fail;go_quiet (fail);have hW0:Below wr.heap.size wr ((wr.alloc (.cells #[.int .i64 r.p,.int .i64 (r.n:Int)] 114)).drewN nq):=Below.drewN (bl1 wr _) nq;have hs0:wr.heap.size < ((wr.alloc (.cells #[.int .i64 r.p,.int .i64 (r.n:Int)] 114)).drewN nq).heap.size:=by simp
   have b0:((wr.alloc (.cells #[.int .i64 r.p,.int .i64 (r.n:Int)] 114)).drewN nq).cell? ⟨wr.heap.size,0,none⟩=some (.int .i64 r.p):=World.cell?_alloc_mark _ _ _ _ _;have b1:((wr.alloc (.cells #[.int .i64 r.p,.int .i64 (r.n:Int)] 114)).drewN nq).cell? ⟨wr.heap.size,1,none⟩=some (.int .i64 (r.n:Int)):=World.cell?_alloc_mark _ _ _ _ _;have how2:OwnV 114 2 ((wr.alloc (.cells #[.int .i64 r.p,.int .i64 (r.n:Int)] 114)).drewN nq) w.heap.size A' 0 c' (rs []):=how1.keep fun _ _ _=>rfl;generalize (wr.alloc (.cells #[.int .i64 r.p,.int .i64 (r.n:Int)] 114)).drewN nq=W at hW0 hs0 b0 b1 how2 ⊢;have how3:=how2.below rfl (bl1 W (.cells #[.int .i64 r.p,.int .i64 (r.n:Int)] 114));have hrd:=rdV_new W #[.int .i64 r.p,.int .i64 (r.n:Int)] 114 (rs [r]) rfl;have hbW:=(hb.trans (hW0.mono hb.size)).alloc (by have:=hb.size;omega) (.cells #[.int .i64 r.p,.int .i64 (r.n:Int)] 114);have hn1:0+1≤1048577:=by omega
   clear how1 how2 c0 c1;go_wp2_with (at_builtin;go_loud (refine wpList_appV elR rfl (.tmp 45) (.tmp 47) rfl rfl w.heap.size _ _ c' _ rfl how3 _ 1 1 _ _ rfl hrd rfl (rs_one _) (by omega) (by unfold maxLen;omega) hbW.size (0+1) rfl (rs ([]++[r])) (rs_append _ _).symm ?_;intro A2 c2 w2 hw2 hb2 _));go_roundw
   case rel=>exact⟨i+1,_,c2,A2,by omega,by go_num,rfl,by omega,by rw[HT1.out];exact hw2,hbW.trans hb2⟩
   simp[intOf];omega
  ·subst e0;have hr1:¬ (r.n:Int) < 1:=by omega
   have hs1:=hsum o y rfl;obtain⟨ad',k,rfl,rfl,hL⟩:=LastR.of how1;obtain⟨yp,yn⟩:=y;obtain⟨rp,rn⟩:=r;dsimp only at hp hr1 hs1 c0 c1 e h0 ⊢;subst hp;have HL:=hid hL;have d0:=hL.c0;have d1:=hL.c1;have d2:=hL.f1;have d3:=hL.lt;dsimp only at d0 d1 d2 d3;clear hsum h0 hL how1;go_wp2_with fail;go_quiet (fail);go_wp2_with fail;have hbW:=hb.trans ((Below.drewN (bl1 wr (.cells #[.int .i64 yp,.int .i64 (rn:Int)] 114)) nq).mono hb.size);have b1:((wr.alloc (.cells #[.int .i64 yp,.int .i64 (rn:Int)] 114)).drewN nq).cell? ⟨wr.heap.size,1,none⟩=some (.int .i64 (rn:Int)):=World.cell?_alloc_mark _ _ _ _ _;have HL2:=hid (HL.out.drewN nq);have d1:=HL2.out.c1;have d2:=HL2.out.f1;have d3:=HL2.out.lt;dsimp only at d1 d2 d3;have HB2:=hid hbW;clear HL d0 c0 c1 hbW HB1;generalize (wr.alloc (.cells #[.int .i64 yp,.int .i64 (rn:Int)] 114)).drewN nq=W at b1 HL2 d1 d2 d3 HB2 ⊢;generalize wr.heap.size=gx at b1 ⊢;have hmr:=sum_any (yn:Int) (rn:Int) _ _ W.drew (by omega) (by omega) (by omega) rfl rfl;have hkk:(k:Int) < (k:Int)+1:=by omega
   have hkw:IntKind.i64.wrap (k:Int)=(k:Int):=IntWalk.i64_in _ (by omega);go_still_tail 14,(by kernel_rfl)
   still_call hmr
   repeat still_step
   refine wpStill_nil ?_;clear hkw;change wpList _ _ _ _ _ W.drew;go_wp2_with fail;obtain⟨hw5,hb5⟩:=(HL2.out.drew).stored (yn+rn);rw[Int.natCast_add] at hw5 hb5;rw[← e] at hw5;go_roundw
   case rel=>exact⟨i+1,_,c',some ad',by omega,by go_num,rfl,by omega,by rw[HT1.out];exact hw5,hb5 _ HB2.out.drew⟩
   simp[intOf];omega
  subst e0;have hr1:¬ (r.n:Int) < 1:=by omega
  obtain⟨ad',k,rfl,rfl,hL⟩:=LastR.of how1;have hpb:(y.p == r.p)=false:=beq_eq_false_iff_ne.2 hp;have d0:=hL.c0;have d3:=hL.lt;subst e;clear hsum h0 hL hp;go_wp2_with fail;go_quiet (fail);have hW0:Below wr.heap.size wr ((wr.alloc (.cells #[.int .i64 r.p,.int .i64 (r.n:Int)] 114)).drewN nq):=Below.drewN (bl1 wr _) nq;have hs0:wr.heap.size < ((wr.alloc (.cells #[.int .i64 r.p,.int .i64 (r.n:Int)] 114)).drewN nq).heap.size:=by simp
  have b0:((wr.alloc (.cells #[.int .i64 r.p,.int .i64 (r.n:Int)] 114)).drewN nq).cell? ⟨wr.heap.size,0,none⟩=some (.int .i64 r.p):=World.cell?_alloc_mark _ _ _ _ _;have b1:((wr.alloc (.cells #[.int .i64 r.p,.int .i64 (r.n:Int)] 114)).drewN nq).cell? ⟨wr.heap.size,1,none⟩=some (.int .i64 (r.n:Int)):=World.cell?_alloc_mark _ _ _ _ _;have how2:OwnV 114 2 ((wr.alloc (.cells #[.int .i64 r.p,.int .i64 (r.n:Int)] 114)).drewN nq) w.heap.size (some ad') (k+1) c' (rs (o++[y])):=how1.keep fun _ _ _=>rfl;generalize (wr.alloc (.cells #[.int .i64 r.p,.int .i64 (r.n:Int)] 114)).drewN nq=W at hW0 hs0 b0 b1 how2 ⊢;have how3:=how2.below rfl (bl1 W (.cells #[.int .i64 r.p,.int .i64 (r.n:Int)] 114));have hrd:=rdV_new W #[.int .i64 r.p,.int .i64 (r.n:Int)] 114 (rs [r]) rfl;have hbW:=(hb.trans (hW0.mono hb.size)).alloc (by have:=hb.size;omega) (.cells #[.int .i64 r.p,.int .i64 (r.n:Int)] 114);have hn1:(k+1)+1≤1048577:=by omega
  clear how1 how2 c0 c1;go_wp2_with (at_builtin;go_loud (refine wpList_appV elR rfl (.tmp 45) (.tmp 47) rfl rfl w.heap.size _ _ c' _ rfl how3 _ 1 1 _ _ rfl hrd rfl (rs_one _) (by omega) (by unfold maxLen;omega) hbW.size ((k+1)+1) rfl (rs ((o++[y])++[r])) (rs_append _ _).symm ?_;intro A2 c2 w2 hw2 hb2 _));go_roundw
  case rel=>exact⟨i+1,_,c2,A2,by omega,by go_num,rfl,by omega,by rw[HT1.out];exact hw2,hbW.trans hb2⟩
  simp[intOf];omega
 have hge:n≤i:=by omega
 have e:L.take i=L:=List.take_of_length_le (by rw[h.len];exact hge);have how2:=HOW.out;rw[e] at how2;have HOW2:=hid how2;clear e how2 HOW;go_wp2_with fail;go_ret;have hl:=HOW2.out.len;rw[rs_length] at hl;have hl2:m=(tidy L).length:=by omega
 subst hl2;exact⟨A',c',rfl,HOW2.out.rdr,HOW2.out.cap,hb,HOW2.out.newer⟩
def wordsL:List Rn→List Int
 | []=>[]
 | r::s=>List.replicate r.n r.p++wordsL s
theorem wordsL_len(L:List Rn):(wordsL L).length=ticks L:=by
 induction L with
 | nil=>rfl
 | cons r s ih=>simp only[wordsL,List.length_append,List.length_replicate,ih,ticks]
theorem wordsL_append(a b:List Rn):wordsL (a++b)=wordsL a++wordsL b:=by
 induction a with
 | nil=>rfl
 | cons r s ih=>simp only[List.cons_append,wordsL,ih,List.append_assoc]
theorem wordsL_more{L:List Rn}{i:Nat}{r:Rn}(h:L[i]? = some r):wordsL (L.take (i+1))=wordsL (L.take i)++List.replicate r.n r.p:=by
 obtain⟨hi,e⟩:=List.getElem?_eq_some_iff.1 h;rw[List.take_succ_eq_append_getElem hi,wordsL_append,e];simp[wordsL]
def MadI(W:List Int)(w:World)(e:Ending)(w':World):Prop:=∃ A c,e=.returned (.slice A W.length c)∧RdI w' w'.heap.size A W.length W∧W.length≤c∧Below w.heap.size w w'
theorem OwnV.rdi{w:World}{B n c:Nat}{A:Option Addr}{L:List Int}(h:OwnV 3 1 w B A n c (is L)):RdI w w.heap.size A n L:=⟨by have:=h.len;rw[is_length] at this;omega,h.rd⟩
theorem rep_snoc(n:Nat)(p:Int):List.replicate (n+1) p=List.replicate n p++[p]:=by rw[List.replicate_succ']
theorem words_any(A:Option Addr)(n cap:Nat)(L:List Rn)(w:World)(h:RdR w w.heap.size A n L)(hc:n≤cap)(hn:n≤1048576)(ht:ticks L≤8192):
  Calls Tryz.prog 69 #[.slice A n cap] w (MadI (wordsL L) w):=by
 have HT:=hid ht;clear ht;go_enter Tryz.func69,Tryz.ntmps69;go_wp2_with fail;go_loopw [3,5,6,9] (fun q _ _ s wr=>∃(i m c:Nat) (A':Option Addr),i≤n∧s=.int .i64 i∧q=.slice A' m c∧OwnV 3 1 wr w.heap.size A' m c (is (wordsL (L.take i)))∧Below w.heap.size w wr) (fun _ _ _ s _=>n - (intOf s).toNat)
 case atStart=>exact⟨0,0,0,none,by omega,rfl,rfl,by simpa [wordsL,is] using OwnV.nil _ _ _ _,Below.refl _ _⟩
 obtain⟨i,m,c,A',hi,rfl,rfl,how,hb⟩:=hrel;by_cases hlt:i < n
 ·obtain⟨ad,r,rfl,had,hr,c0,c1⟩:=(h.on hb).at_ hlt;have hbl:=bl1 wr (.cells #[.int .i64 r.p,.int .i64 (r.n:Int)] 114);have hb1:=hb.trans (hbl.mono hb.size);have hmore:=wordsL_more hr;have htk:=take_more hr;have hle:=take_ticks L (i+1);have hT:=HT.out;have how1:=how.below rfl hbl;have hm:=how.len;rw[is_length,wordsL_len,Nat.mul_one] at hm;have hmt:m+r.n≤8192:=by omega
  have HM:=hid hmore;have hwb:=hb.size;obtain⟨rp,rn⟩:=r;dsimp only at c0 c1 hmt how1 HM hb1;have hobk:obk A'≠some wr.heap.size:=fun e=>by
   cases A' with
   | none=>cases e
   | some a =>
    have hmp:0 < m∨m=0:=by omega
    rcases how.2 with ⟨hv,_⟩ | ⟨g',cap',cur,hv,_,hg',_⟩
    ·cases hv
    have h1:some a=some ⟨g',0,none⟩:=by injection hv
    injection h1 with h1;subst h1;have h2:=(Array.getElem?_eq_some_iff.1 hg').1;injection e with e;have e:g'=wr.heap.size:=e;omega
  clear hr hmore htk hle hT how hbl hb;generalize hG:wr.alloc (.cells #[.int .i64 rp,.int .i64 (rn:Int)] 114)=W1 at how1 hb1;have n0:W1.cell? ⟨wr.heap.size,0,none⟩=some (.int .i64 rp):=by rw[← hG];exact World.cell?_alloc_mark _ _ _ _ _
  have n1:W1.cell? ⟨wr.heap.size,1,none⟩=some (.int .i64 (rn:Int)):=by rw[← hG];exact World.cell?_alloc_mark _ _ _ _ _
  have hsz:wr.heap.size < W1.heap.size:=by rw[← hG];simp
  go_wp2_with fail;generalize wr.heap.size=g at n0 n1 hsz hwb hobk ⊢;clear hG c0 c1 had;go_loopw [3,6] (fun q s wx=>∃(j k c2:Nat) (A2:Option Addr),j≤rn∧s=.int .i64 j∧q=.slice A2 k c2∧k=m+j∧OwnV 3 1 wx w.heap.size A2 k c2 (is (wordsL (L.take i)++List.replicate j rp))∧Below w.heap.size w wx∧wx.cell? ⟨g,0,none⟩=some (.int .i64 rp)∧wx.cell? ⟨g,1,none⟩=some (.int .i64 (rn:Int))∧obk A2≠some g) (fun _ s _=>rn - (intOf s).toNat)
  case atStart=>exact⟨0,m,c,A',by omega,rfl,rfl,rfl,by simpa using how1,hb1,n0,n1,hobk⟩
  obtain⟨j,k,c2,A2,hj,rfl,rfl,hk,how2,hbx,n0,n1,hob⟩:=hrel;by_cases hjn:j < rn
  ·have hk8:(k:Int) < 8192:=by omega
   have hk9:k < 8192:=by omega
   have HKK:=hid hk;clear hk;have hbl2:=bl1 wr (.cells #[.int .i64 rp] 3);have how3:=how2.below rfl hbl2;have hrd:=rdV_new wr #[.int .i64 rp] 3 (is [rp]) rfl;have hb3:=hbx.trans (hbl2.mono hbx.size);have hgx:g < wr.heap.size:=by
    have:=World.block_lt_of_cell? wr _ n0;exact this
   go_wp2_with (at_builtin;go_loud (refine wpList_appX elI rfl (.tmp 24) (.tmp 27) rfl rfl w.heap.size A2 k c2 _ rfl how3 _ 1 1 _ _ rfl hrd rfl Nat.one_pos (is_one _) (by omega) (by unfold maxLen;omega) hb3.size (k+1) rfl (is (wordsL (L.take i)++List.replicate (j+1) rp)) (by rw[rep_snoc,← List.append_assoc];exact(is_append _ _).symm) ?_;intro A4 c4 w4 hw4 hb4 hot));go_roundw
   case rel =>
    have hst:∀ o v,wr.cell? ⟨g,o,none⟩=some v→w4.cell? ⟨g,o,none⟩=some v:=fun o v hv=>by
     have h1:w4.cell? ⟨g,o,none⟩=(wr.alloc (.cells #[.int .i64 rp] 3)).cell? ⟨g,o,none⟩:=World.cell?_of_block (hot.gb.block g (by simp;omega) (fun e=>hob e.symm));rw[h1,World.cell?_alloc_lt _ _ _ hgx];exact hv
    refine⟨j+1,k+1,c4,A4,by omega,by go_num,rfl,by have:=HKK.out;omega,hw4,hb3.trans hb4,hst _ _ n0,hst _ _ n1,?_⟩;rcases hot.at_ with e | ⟨g4,e,hge⟩
    ·rw[e];exact hob
    rw[e];intro e5;injection e5 with e5;simp at hge;omega
   simp[intOf];omega
  obtain rfl:j=rn:=by omega
  have how5:=how2;rw[← HM.out] at how5;have HOW5:=hid how5;clear how5 how2 hk;go_wp2_with fail;go_roundw
  case rel=>exact⟨i+1,k,c2,A2,by omega,by go_num,rfl,HOW5.out,hbx⟩
  simp[intOf];omega
 have hge:n≤i:=by omega
 have e:L.take i=L:=List.take_of_length_le (by rw[h.len];exact hge);rw[e] at how;have hm:=how.len;rw[is_length,Nat.mul_one] at hm;go_wp2_with fail;go_ret;exact⟨A',c,by rw[hm];rfl,by rw[hm];exact how.rdi,by rw[hm];exact how.cap,hb⟩
def distF(W:List Int)(q:Int)(t:Nat):Nat→Nat→Nat
 | 0,d=>d
 | f+1,d=>if W[(t+d) % W.length]? = some q then d else distF W q t f (d+1)
def dist(W:List Int)(q:Int)(t:Nat):Nat:=distF W q t W.length 1
def lateW(W:List Int)(p q:Int):Nat→Nat
 | 0=>0
 | k+1=>if W[k]? = some p then max (lateW W p q k) (dist W q k) else lateW W p q k
def hasL(q:Int):List Int→Bool
 | []=>false
 | x::l=>decide (x=q) || hasL q l
def lateL(W:List Int)(p q:Int):Int:=if hasL p W=false then 0 else if hasL q W=false then -1 else (lateW W p q W.length:Int)
theorem hasL_append(q:Int)(a b:List Int):hasL q (a++b)=(hasL q a || hasL q b):=by
 induction a with
 | nil=>rfl
 | cons x a ih=>simp only[List.cons_append,hasL,ih,Bool.or_assoc]
theorem hasL_more{W:List Int}{i:Nat}{x:Int}(q:Int)(h:W[i]? = some x):hasL q (W.take (i+1))=(hasL q (W.take i) || decide (x=q)):=by
 obtain⟨hi,e⟩:=List.getElem?_eq_some_iff.1 h;rw[List.take_succ_eq_append_getElem hi,hasL_append,e];simp[hasL]
theorem hasL_get{W:List Int}{q:Int}(h:hasL q W=true):∃ i,i < W.length∧W[i]? = some q:=by
 induction W with
 | nil=>cases h
 | cons x W ih =>
  simp only[hasL,Bool.or_eq_true,decide_eq_true_eq] at h;rcases h with rfl | h
  ·exact⟨0,by simp,rfl⟩
  obtain⟨i,hi,e⟩:=ih h;exact⟨i+1,by simp only[List.length_cons];omega,by simpa using e⟩
theorem dist_ex{W:List Int}{q:Int}(h:hasL q W=true)(t:Nat):∃ e,1≤e∧e≤W.length∧W[(t+e) % W.length]? = some q:=by
 obtain⟨i,hi,e⟩:=hasL_get h;have hn:0 < W.length:=by omega
 have h1:=Nat.mod_lt t hn;have h2:=Nat.div_add_mod t W.length;by_cases hlt:t % W.length < i
 ·refine⟨i - t % W.length,by omega,by omega,?_⟩;have h3:(t+(i - t % W.length)) % W.length=i:=by
   have h4:t+(i - t % W.length)=i+W.length*(t / W.length):=by omega
   rw[h4,Nat.add_mul_mod_self_left,Nat.mod_eq_of_lt hi]
  rw[h3];exact e
 refine⟨W.length+i - t % W.length,by omega,by omega,?_⟩;have h3:(t+(W.length+i - t % W.length)) % W.length=i:=by
  have h4:t+(W.length+i - t % W.length)=i+W.length*(t / W.length+1):=by
   rw[Nat.mul_add,Nat.mul_one];omega
  rw[h4,Nat.add_mul_mod_self_left,Nat.mod_eq_of_lt hi]
 rw[h3];exact e
theorem distF_yes{W:List Int}{q:Int}{t f d:Nat}(h:W[(t+d) % W.length]? = some q):distF W q t f d=d:=by
 cases f with
 | zero=>rfl
 | succ f=>simp only[distF];rw[if_pos h]
theorem distF_no{W:List Int}{q:Int}{t f d:Nat}(h:¬ W[(t+d) % W.length]? = some q):distF W q t (f+1) d=distF W q t f (d+1):=by simp only[distF];rw[if_neg h]
theorem late_any(A : Option Addr)(n cap : Nat)(L : List Rn)(p q : Int)(w : World)(h : RdR w w.heap.size A n L)(hc : n ≤ cap)(hn : n ≤ 1048576)(ht : ticks L ≤ 8192):
    Calls Tryz.prog 42 #[.slice A n cap, .int .i64 p, .int .i64 q] w (Ans (.int .i64 (lateL (wordsL L) p q)) w) := by
  have hW := words_any A n cap L w h hc hn ht
  have hl := wordsL_len L
  unfold MadI at hW
  generalize wordsL L = W at hW hl ⊢
  have hm : W.length ≤ 8192 := by omega
  have hlate0 : hasL p W = false → lateL W p q = 0 := fun e => if_pos e
  have hlate1 : hasL p W = true → hasL q W = false → lateL W p q = -1 := fun e e2 => by unfold lateL; rw [if_neg (by rw [e]; simp), if_pos e2]
  have hlate2 : hasL p W = true → hasL q W = true → lateL W p q = (lateW W p q W.length : Int) := fun e e2 => by unfold lateL; rw [if_neg (by rw [e]; simp), if_neg (by rw [e2]; simp)]
  generalize lateL W p q = R at hlate0 hlate1 hlate2 ⊢
  generalize hM : W.length = m at hW hm hlate2
  have HM := hid hM
  have HW := hid hW
  have HL0 := hid hlate0
  have HL1 := hid hlate1
  have HL2 := hid hlate2
  clear hW hlate0 hlate1 hlate2 hM h hl
  go_enter Tryz.func42, Tryz.ntmps42
  go_wp2_with fail
  refine HW.out.mono ?_
  rintro e w1⟨A1, c1, rfl, hr1, hc1, hb1⟩
  go_wp2_with fail
  go_loopw [9, 10, 12, 20] (fun s9 s10 _ s wr => ∃ i : Nat, i ≤ m ∧ s = .int .i64 i ∧ s9 = .bool (hasL q (W.take i)) ∧ s10 = .bool (hasL p (W.take i)) ∧ wr = w1) (fun _ _ _ s _ => m - (intOf s).toNat)
  case atStart => exact ⟨0, by omega, rfl, rfl, rfl, rfl⟩
  case round =>
    obtain ⟨i, hi, rfl, rfl, rfl, hw⟩ := hrel
    have hw' := hw.symm
    clear hw
    subst hw'
    by_cases hlt : i < m
    · obtain ⟨ad, x, rfl, had, hx, c0⟩ := hr1.at_ hlt
      have e1 := hasL_more q hx
      have e2 := hasL_more p hx
      have E1 := hid e1
      have E2 := hid e2
      clear e1 e2 hx
      generalize hasL q (W.take i) = b1 at E1 ⊢
      generalize hasL p (W.take i) = b2 at E2 ⊢
      have f1 : (x == q) = decide (x = q) := rfl
      have f2 : (x == p) = decide (x = p) := rfl
      cases b1 <;> cases b2 <;>
        (go_wp2_with fail
         go_roundw
         case rel => exact ⟨i + 1, by omega, by go_num, by rw [E1.out]; simp, by rw [E2.out]; simp, trivial⟩
         case measure => simp [intOf]; omega)
    · have hge : m ≤ i := by omega
      have e : W.take i = W := List.take_of_length_le (by rw [HM.out]; exact hge)
      rw [e]
      clear e
      cases hp : hasL p W with
      | false =>
        have e := HL0.out hp
        subst e
        go_wp2_with fail
        go_ret
        exact ⟨rfl, hb1⟩
      | true =>
        cases hq : hasL q W with
        | false =>
          have e := HL1.out hp hq
          subst e
          go_wp2_with fail
          go_ret
          exact ⟨rfl, hb1⟩
        | true =>
          have e := HL2.out hp hq
          have HE := hid e
          have HEX := hid fun t => dist_ex hq t
          clear e hp hq HL0 HL1 HL2
          go_wp2_with fail
          go_loopw [8, 13, 14, 15, 43] (fun s8 _ _ _ s wr => ∃ t k : Nat, t ≤ m ∧ s = .int .i64 t ∧ s8 = .int .i64 k ∧ k = lateW W p q t ∧ k ≤ m ∧ wr = w1) (fun _ _ _ _ s _ => m - (intOf s).toNat)
          case atStart => exact ⟨0, 0, by omega, rfl, rfl, rfl, by omega, rfl⟩
          case round =>
            obtain ⟨t, k, ht, rfl, rfl, hk, hkm, hw⟩ := hrel
            have hw' := hw.symm
            clear hw
            subst hw'
            have HK := hid hk
            clear hk
            by_cases hlt : t < m
            · obtain ⟨ad, x, rfl, had, hx, c0⟩ := hr1.at_ hlt
              have HX := hid hx
              clear hx
              by_cases hxp : x = p
              · subst hxp
                have hne : (x != x) = false := by simp
                go_wp2_with fail
                go_loopw [15] (fun s wr => ∃ d f : Nat, 1 ≤ d ∧ d + f = m + 1 ∧ s = .int .i64 d ∧ distF W q t f d = dist W q t ∧ (∃ e, d ≤ e ∧ e ≤ m ∧ W[(t + e) % m]? = some q) ∧ wr = w1) (fun s _ => m + 1 - (intOf s).toNat)
                case atStart =>
                  obtain ⟨e, h1, h2, h3⟩ := HEX.out t
                  rw [HM.out] at h2 h3
                  exact ⟨1, m, by omega, by omega, rfl, by unfold dist; rw [HM.out], ⟨e, h1, h2, h3⟩, rfl⟩
                case round =>
                  obtain ⟨d, f, hd1, hdf, rfl, hdist, hex, hw⟩ := hrel
                  have hw' := hw.symm
                  clear hw
                  subst hw'
                  have hdm : d ≤ m := by obtain ⟨e, h1, h2, _⟩ := hex; omega
                  obtain ⟨r, hr⟩ : ∃ r, r = (t + d) % m := ⟨_, rfl⟩
                  have hrm : r < m := by rw [hr]; exact Nat.mod_lt _ (by omega)
                  obtain ⟨ad2, y, e2, _, hy, d0⟩ := hr1.at_ hrm
                  injection e2 with e2
                  subst e2
                  have hr2 : ((t : Int) + (d : Int)) % (m : Int) = (r : Int) := by rw [hr, Int.natCast_emod]; rfl
                  have hr3 : ((t : Int) + (d : Int)).tmod (m : Int) = (r : Int) := by rw [Int.tmod_eq_emod_of_nonneg (by omega)]; exact hr2
                  have HD := hid hdist
                  have HX2 := hid hex
                  have HY := hid hy
                  have HRR := hid hr
                  have hm0 : ¬ m = 0 := by omega
                  clear hdist hex hy hr
                  by_cases hyq : y = q
                  · subst hyq
                    have hne2 : (y != y) = false := by simp
                    have hdd : distF W y t f d = d := distF_yes (by rw [HM.out, ← HRR.out]; exact HY.out)
                    have hD := HD.out
                    rw [hdd] at hD
                    have HD2 := hid hD
                    have hx1 : max (k : Int) (d : Int) = ((max k d : Nat) : Int) := by omega
                    have HLW : Hid (max k d = lateW W x y (t + 1)) := hid (by simp only [lateW]; rw [if_pos HX.out, HK.out, hD])
                    have hmx : max k d ≤ m := by omega
                    clear hD hdd HD
                    go_wp2_with fail
                    go_roundw
                    case rel => exact ⟨t + 1, max k d, by omega, by go_num, by first | (congr 1; done) | (congr 1; first | omega | (split <;> omega)), HLW.out, hmx, trivial⟩
                    case measure => simp [intOf]; omega
                  · have hne2 : (y != q) = true := bne_iff_ne.2 hyq
                    have hno : ¬ W[(t + d) % W.length]? = some q := by
                      rw [HM.out, ← HRR.out, HY.out]
                      intro e
                      injection e with e
                      exact hyq e
                    have hx2 : ∃ e, d + 1 ≤ e ∧ e ≤ m ∧ W[(t + e) % m]? = some q := by
                      obtain ⟨e, h1, h2, h3⟩ := HX2.out
                      refine ⟨e, ?_, h2, h3⟩
                      rcases Nat.lt_or_ge d e with h4 | h4
                      · exact h4
                      · have : e = d := by omega
                        subst this
                        rw [HM.out] at hno
                        exact absurd h3 hno
                    obtain ⟨f', rfl⟩ : ∃ f', f = f' + 1 := ⟨f - 1, by obtain ⟨e, h1, h2, _⟩ := hx2; omega⟩
                    have hD := HD.out
                    rw [distF_no hno] at hD
                    have HD2 := hid hD
                    have HX3 := hid hx2
                    clear hD HD hno hx2 HX2
                    go_wp2_with fail
                    go_roundw
                    case rel => exact ⟨d + 1, f', by omega, by omega, by go_num, HD2.out, HX3.out, trivial⟩
                    case measure => simp [intOf]; omega
              · have hne : (x != p) = true := bne_iff_ne.2 hxp
                have HLW : Hid (k = lateW W p q (t + 1)) := hid (by
                  simp only [lateW]
                  rw [if_neg (by rw [HX.out]; intro e; injection e with e; exact hxp e)]
                  exact HK.out)
                go_wp2_with fail
                go_roundw
                case rel => exact ⟨t + 1, k, by omega, by go_num, rfl, HLW.out, hkm, trivial⟩
                case measure => simp [intOf]; omega
            · obtain rfl : t = m := by omega
              have hR : R = (k : Int) := by rw [HE.out, HK.out]
              have HR := hid hR
              clear hR
              go_wp2_with fail
              go_ret
              exact ⟨by rw [HR.out]; rfl, hb1⟩
end Go.Proofs.YtdkngfdnfekgfaaGreat
