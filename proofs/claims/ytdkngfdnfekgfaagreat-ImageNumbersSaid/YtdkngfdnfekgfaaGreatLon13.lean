import Derived.Test.YtdkngfdnfekgfaaGreatLon12
import Derived.StillTailTactics
import Derived.Laws.OwnMore
set_option maxHeartbeats 4000000
set_option maxRecDepth 100000
set_option linter.unusedSimpArgs false
set_option linter.unusedVariables false
namespace Go.Proofs.YtdkngfdnfekgfaaGreat
open Go.RowKit Tab
theorem below_gb{B b:Nat}{w w1 w2:World}(h:Below B w w1)(hG:w1.grownBy w2 (some b))(hB:B≤b)(hs:B≤w1.heap.size):Below B w w2 :=
 ⟨hG.os.trans h.os,hG.tape.trans h.tape,hG.output.trans h.output,Nat.le_trans h.size hG.size,fun j hj=>(hG.block j (by omega) (fun e=>by injection e with e;omega)).trans (h.block j hj)⟩
theorem take_more{L:List Rn}{i:Nat}{r:Rn}(h:L[i]? = some r):ticks (L.take (i+1))=ticks (L.take i)+r.n:=by
 obtain⟨hi,e⟩:=List.getElem?_eq_some_iff.1 h;rw[List.take_succ_eq_append_getElem hi,ticks_append,e];simp[ticks]
theorem drop_more{L:List Rn}{i:Nat}{r:Rn}(h:L[i]? = some r):L.drop i=r::L.drop (i+1):=by
 obtain⟨hi,e⟩:=List.getElem?_eq_some_iff.1 h;rw[List.drop_eq_getElem_cons hi,e]
theorem take_ticks(L:List Rn)(i:Nat):ticks (L.take i)≤ticks L:=by
 have:=ticks_append (L.take i) (L.drop i);rw[List.take_append_drop] at this;omega
theorem tidy_take_ticks(L:List Rn)(i:Nat):ticks (tidy (L.take i))≤ticks L:=by rw[ticks_tidy];exact take_ticks L i
theorem tidy_one{L:List Rn}{i:Nat}{o:List Rn}{y r:Rn}(hr:L[i]? = some r)(ho:tidy (L.take i)=o++[y]):y.n+r.n≤ticks L:=by
 have h1:=tidy_take_ticks L (i+1);rw[tidy_more hr,ho,ticks_push,ticks_append] at h1;simp only[ticks] at h1;omega
structure LastR(W:World)(B:Nat)(ad:Addr)(k c:Nat)(o:List Rn)(y:Rn):Prop where
 g:∃ g,ad=⟨g,0,none⟩∧OwnV 114 2 W B (some ⟨g,0,none⟩) (k+1) c (rs (o++[y]))
 len:o.length=k
 c0:W.cell? (ad.add (k*2))=some (.int .i64 y.p)
 c1:W.cell? ⟨(ad.add (k*2)).block,(ad.add (k*2)).off+1,none⟩=some (.int .i64 (y.n:Int))
 f1:W.frozen? ⟨(ad.add (k*2)).block,(ad.add (k*2)).off+1,none⟩=false
 lt:ad.block < W.heap.size
theorem add_two(g k:Nat):(⟨((⟨g,0,none⟩:Addr).add (k*2)).block,((⟨g,0,none⟩:Addr).add (k*2)).off+1,none⟩:Addr)=⟨g,k*2+1,none⟩:=by
 unfold Addr.add;split
 ·rename_i h;rw[h]
 simp
theorem add_one'(g k:Nat):(⟨g,0,none⟩:Addr).add k=⟨g,k,none⟩:=by
 unfold Addr.add;split
 ·rename_i h;rw[h]
 simp
theorem LastR.of{W:World}{B m c:Nat}{A:Option Addr}{o:List Rn}{y:Rn}(h:OwnV 114 2 W B A m c (rs (o++[y]))):∃(ad:Addr) (k:Nat),A=some ad∧m=k+1∧LastR W B ad k c o y:=by
 have hl:=h.len;rw[rs_length,List.length_append,List.length_singleton] at hl;obtain⟨k,hk⟩:∃ k,o.length=k:=⟨_,rfl⟩;have hm:m=k+1:=by omega
 subst hm;obtain⟨g,rfl,hg,hlt⟩:=h.block (by omega);have hget:(o++[y])[k]'(by simp;omega)=y:=by
  simp[← hk]
 obtain⟨e0,e1⟩:=rs_get (o++[y]) k (by simp;omega);rw[hget] at e0 e1;refine⟨_,k,rfl,rfl,⟨g,rfl,h⟩,hk,?_,?_,?_,hlt⟩
 ·rw[add_one'];exact(World.ownsRow.cellAt h (k*2) (by omega)).trans e0
 ·rw[add_two];exact(World.ownsRow.cellAt h (k*2+1) (by omega)).trans e1
 rw[add_two];exact World.ownsRow.frozenAt h _
theorem LastR.stored{W:World}{B k c:Nat}{ad:Addr}{o:List Rn}{y:Rn}(h:LastR W B ad k c o y)(N:Nat):
  OwnV 114 2 (W.setCell ⟨(ad.add (k*2)).block,(ad.add (k*2)).off+1,none⟩ (.int .i64 (N:Int))) B (some ad) (k+1) c (rs (o++[⟨y.p,N⟩])) ∧
   ∀ V,Below B V W→Below B V (W.setCell ⟨(ad.add (k*2)).block,(ad.add (k*2)).off+1,none⟩ (.int .i64 (N:Int))):=by
 obtain⟨g,rfl,hw⟩:=h.g
 rw[add_two]
 have h1:=(World.ownsRow.stored hw (k*2+1) (.int .i64 (N:Int))).1
 have e:(rs (o++[y])).set (k*2+1) (.int .i64 (N:Int))=rs (o++[⟨y.p,N⟩]):=by
  rw[rs_append,rs_append,List.set_append_right _ _ (by rw[rs_length,h.len];omega),rs_length,h.len]
  have:k*2+1 - k*2=1:=by omega
  rw[this]
  rfl
 rw[e] at h1
 refine⟨h1,fun V hV=>?_⟩
 have hge:B≤g:=by
  obtain⟨g',e',hb,_⟩:=OwnV.block hw (by omega)
  injection e' with e'
  injection e' with e'
  omega
 exact hV.setCell (p:=⟨g,k*2+1,none⟩) hge _
theorem LastR.drewN{W:World}{B k c:Nat}{ad:Addr}{o:List Rn}{y:Rn}(h:LastR W B ad k c o y)(q:Nat):LastR (W.drewN q) B ad k c o y:=⟨h.g,h.len,h.c0,h.c1,h.f1,h.lt⟩
theorem LastR.drew{W:World}{B k c:Nat}{ad:Addr}{o:List Rn}{y:Rn}(h:LastR W B ad k c o y):LastR W.drew B ad k c o y:=⟨h.g,h.len,h.c0,h.c1,h.f1,h.lt⟩
theorem tidy_any(A:Option Addr)(n cap:Nat)(L:List Rn)(w:World)(h:RdR w w.heap.size A n L)(hc:n≤cap)(hn:n≤1048576)(ht:ticks L≤1099511627776):
  Calls Tryz.prog 115 #[.slice A n cap] w (MadeR (tidy L) w):=by
 go_enter Tryz.func115,Tryz.ntmps115;go_wp2_with fail;go_loopw [3,9] (fun q s wr=>∃(i m c':Nat) (A':Option Addr),i≤n∧s=.int .i64 i∧q=.slice A' m c'∧m≤i∧OwnV 114 2 wr w.heap.size A' m c' (rs (tidy (L.take i)))∧Below w.heap.size w wr) (fun _ s _=>n - (intOf s).toNat)
 case atStart=>exact⟨0,0,0,none,by omega,rfl,rfl,by omega,by simpa [tidy,tidyOn,rs] using OwnV.nil _ _ _ _,Below.refl _ _⟩
 obtain⟨i,m,c',A',hi,rfl,rfl,hm,how,hb⟩:=hrel;have HOW:=hid how;clear how;by_cases hlt:i < n
 ·obtain⟨ad,r,rfl,had,hr,c0,c1⟩:=(h.on hb).at_ hlt;have hmore:=tidy_more hr;have hcs:=tpush_cases (tidy (L.take i)) r;rw[← hmore] at hcs;have hbl:=bl1 wr (.cells #[.int .i64 r.p,.int .i64 (r.n:Int)] 114);have hb1:=hb.trans (hbl.mono hb.size);have hle:=tidy_take_le L (i+1);have how1:=HOW.out.below rfl hbl;have hsum:∀ o y,tidy (L.take i)=o++[y]→y.n+r.n≤ticks L:=fun o y e=>tidy_one hr e;generalize tidy (L.take i)=T at HOW hcs how1 hsum;generalize hT1:tidy (L.take (i+1))=T1 at hcs hle;have HT1:=hid hT1;have HB1:=hid hb1;clear hT1 hmore hr hbl hb1 HOW;rcases hcs with ⟨h0,e⟩ | ⟨h0,e0,e⟩ | ⟨o,y,h0,e0,hp,e⟩ | ⟨o,y,h0,e0,hp,e⟩
  ·have hr1:(r.n:Int) < 1:=by omega
   subst e;have HOW1:=hid how1;clear how1 hsum h0;go_wp2_with fail;go_roundw
   case rel=>exact⟨i+1,m,c',A',by omega,by go_num,rfl,by omega,by rw[HT1.out];exact HOW1.out,HB1.out⟩
   simp[intOf];omega
  ·subst e0;have hm0:m=0:=by have:=how1.len;simp[rs] at this;omega
   subst hm0;have hr1:¬ (r.n:Int) < 1:=by omega
   subst e;clear hsum h0;go_wp2_with fail;go_quiet (fail);have hW0:Below wr.heap.size wr ((wr.alloc (.cells #[.int .i64 r.p,.int .i64 (r.n:Int)] 114)).drewN nq):=Below.drewN (bl1 wr _) nq;have hs0:wr.heap.size < ((wr.alloc (.cells #[.int .i64 r.p,.int .i64 (r.n:Int)] 114)).drewN nq).heap.size:=by simp
   have b0:((wr.alloc (.cells #[.int .i64 r.p,.int .i64 (r.n:Int)] 114)).drewN nq).cell? ⟨wr.heap.size,0,none⟩=some (.int .i64 r.p):=World.cell?_alloc_mark _ _ _ _ _;have b1:((wr.alloc (.cells #[.int .i64 r.p,.int .i64 (r.n:Int)] 114)).drewN nq).cell? ⟨wr.heap.size,1,none⟩=some (.int .i64 (r.n:Int)):=World.cell?_alloc_mark _ _ _ _ _;have how2:OwnV 114 2 ((wr.alloc (.cells #[.int .i64 r.p,.int .i64 (r.n:Int)] 114)).drewN nq) w.heap.size A' 0 c' (rs []):=how1.keep fun _ _ _=>rfl;generalize (wr.alloc (.cells #[.int .i64 r.p,.int .i64 (r.n:Int)] 114)).drewN nq=W at hW0 hs0 b0 b1 how2 ⊢;have how3:=how2.below rfl (bl1 W (.cells #[.int .i64 r.p,.int .i64 (r.n:Int)] 114));have hrd:=rdV_new W #[.int .i64 r.p,.int .i64 (r.n:Int)] 114 (rs [r]) rfl;have hbW:=(hb.trans (hW0.mono hb.size)).alloc (by have:=hb.size;omega) (.cells #[.int .i64 r.p,.int .i64 (r.n:Int)] 114);have hn1:0+1≤1048577:=by omega
   clear how1 how2 c0 c1;go_wp2_with (at_builtin;go_loud (refine wpList_appV elR rfl (.tmp 43) (.tmp 45) rfl rfl w.heap.size _ _ c' _ rfl how3 _ 1 1 _ _ rfl hrd rfl (rs_one _) (by omega) (by unfold maxLen;omega) hbW.size (0+1) rfl (rs ([]++[r])) (rs_append _ _).symm ?_;intro A2 c2 w2 hw2 hb2 _));go_roundw
   case rel=>exact⟨i+1,_,c2,A2,by omega,by go_num,rfl,by omega,by rw[HT1.out];exact hw2,hbW.trans hb2⟩
   simp[intOf];omega
  ·subst e0;have hr1:¬ (r.n:Int) < 1:=by omega
   have hs1:=hsum o y rfl;obtain⟨ad',k,rfl,rfl,hL⟩:=LastR.of how1;obtain⟨yp,yn⟩:=y;obtain⟨rp,rn⟩:=r;dsimp only at hp hr1 hs1 c0 c1 e h0 ⊢;subst hp;have HL:=hid hL;have d0:=hL.c0;have d1:=hL.c1;have d2:=hL.f1;have d3:=hL.lt;dsimp only at d0 d1 d2 d3;clear hsum h0 hL how1;go_wp2_with fail;go_quiet (fail);go_wp2_with fail;have hbW:=hb.trans ((Below.drewN (bl1 wr (.cells #[.int .i64 yp,.int .i64 (rn:Int)] 114)) nq).mono hb.size);have b1:((wr.alloc (.cells #[.int .i64 yp,.int .i64 (rn:Int)] 114)).drewN nq).cell? ⟨wr.heap.size,1,none⟩=some (.int .i64 (rn:Int)):=World.cell?_alloc_mark _ _ _ _ _;have HL2:=hid (HL.out.drewN nq);have d1:=HL2.out.c1;have d2:=HL2.out.f1;have d3:=HL2.out.lt;dsimp only at d1 d2 d3;have HB2:=hid hbW;clear HL d0 c0 c1 hbW HB1;generalize (wr.alloc (.cells #[.int .i64 yp,.int .i64 (rn:Int)] 114)).drewN nq=W at b1 HL2 d1 d2 d3 HB2 ⊢;generalize wr.heap.size=gx at b1 ⊢;have hmr:=more_any (yn:Int) (rn:Int) _ _ W.drew (by omega) (by omega) (by omega) rfl rfl;have hkk:(k:Int) < (k:Int)+1:=by omega
   go_still_tail 12,(by kernel_rfl)
   still_call hmr
   repeat still_step
   refine wpStill_nil ?_;change wpList _ _ _ _ _ W.drew;go_wp2_with fail;obtain⟨hw5,hb5⟩:=(HL2.out.drew).stored (yn+rn);rw[Int.natCast_add] at hw5 hb5;rw[← e] at hw5;go_roundw
   case rel=>exact⟨i+1,_,c',some ad',by omega,by go_num,rfl,by omega,by rw[HT1.out];exact hw5,hb5 _ HB2.out.drew⟩
   simp[intOf];omega
  subst e0;have hr1:¬ (r.n:Int) < 1:=by omega
  obtain⟨ad',k,rfl,rfl,hL⟩:=LastR.of how1;have hpb:(y.p == r.p)=false:=beq_eq_false_iff_ne.2 hp;have d0:=hL.c0;have d3:=hL.lt;subst e;clear hsum h0 hL hp;go_wp2_with fail;go_quiet (fail);have hW0:Below wr.heap.size wr ((wr.alloc (.cells #[.int .i64 r.p,.int .i64 (r.n:Int)] 114)).drewN nq):=Below.drewN (bl1 wr _) nq;have hs0:wr.heap.size < ((wr.alloc (.cells #[.int .i64 r.p,.int .i64 (r.n:Int)] 114)).drewN nq).heap.size:=by simp
  have b0:((wr.alloc (.cells #[.int .i64 r.p,.int .i64 (r.n:Int)] 114)).drewN nq).cell? ⟨wr.heap.size,0,none⟩=some (.int .i64 r.p):=World.cell?_alloc_mark _ _ _ _ _;have b1:((wr.alloc (.cells #[.int .i64 r.p,.int .i64 (r.n:Int)] 114)).drewN nq).cell? ⟨wr.heap.size,1,none⟩=some (.int .i64 (r.n:Int)):=World.cell?_alloc_mark _ _ _ _ _;have how2:OwnV 114 2 ((wr.alloc (.cells #[.int .i64 r.p,.int .i64 (r.n:Int)] 114)).drewN nq) w.heap.size (some ad') (k+1) c' (rs (o++[y])):=how1.keep fun _ _ _=>rfl;generalize (wr.alloc (.cells #[.int .i64 r.p,.int .i64 (r.n:Int)] 114)).drewN nq=W at hW0 hs0 b0 b1 how2 ⊢;have how3:=how2.below rfl (bl1 W (.cells #[.int .i64 r.p,.int .i64 (r.n:Int)] 114));have hrd:=rdV_new W #[.int .i64 r.p,.int .i64 (r.n:Int)] 114 (rs [r]) rfl;have hbW:=(hb.trans (hW0.mono hb.size)).alloc (by have:=hb.size;omega) (.cells #[.int .i64 r.p,.int .i64 (r.n:Int)] 114);have hn1:(k+1)+1≤1048577:=by omega
  clear how1 how2 c0 c1;go_wp2_with (at_builtin;go_loud (refine wpList_appV elR rfl (.tmp 43) (.tmp 45) rfl rfl w.heap.size _ _ c' _ rfl how3 _ 1 1 _ _ rfl hrd rfl (rs_one _) (by omega) (by unfold maxLen;omega) hbW.size ((k+1)+1) rfl (rs ((o++[y])++[r])) (rs_append _ _).symm ?_;intro A2 c2 w2 hw2 hb2 _));go_roundw
  case rel=>exact⟨i+1,_,c2,A2,by omega,by go_num,rfl,by omega,by rw[HT1.out];exact hw2,hbW.trans hb2⟩
  simp[intOf];omega
 have hge:n≤i:=by omega
 have e:L.take i=L:=List.take_of_length_le (by rw[h.len];exact hge);have how2:=HOW.out;rw[e] at how2;have HOW2:=hid how2;clear e how2 HOW;go_wp2_with fail;go_ret;have hl:=HOW2.out.len;rw[rs_length] at hl;have hl2:m=(tidy L).length:=by omega
 subst hl2;exact⟨A',c',rfl,HOW2.out.rdr,HOW2.out.cap,hb,HOW2.out.newer⟩
end Go.Proofs.YtdkngfdnfekgfaaGreat
