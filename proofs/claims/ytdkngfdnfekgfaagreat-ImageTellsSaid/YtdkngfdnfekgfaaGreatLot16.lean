import Derived.Test.YtdkngfdnfekgfaaGreatLot8
import Derived.Test.YtdkngfdnfekgfaaGreatLot15
import Derived.StillTailTactics
import Derived.Laws.OwnMore
set_option maxHeartbeats 4000000
set_option maxRecDepth 100000
set_option linter.unusedSimpArgs false
set_option linter.unusedVariables false
namespace Go.Proofs.YtdkngfdnfekgfaaGreat
open Go.RowKit Tab
theorem tidy_take_ticks(L:List Rn)(i:Nat):ticks (tidy (L.take i))≤ticks L:=by rw[ticks_tidy];exact take_ticks L i
theorem tidy_one{L:List Rn}{i:Nat}{o:List Rn}{y r:Rn}(hr:L[i]? = some r)(ho:tidy (L.take i)=o++[y]):y.n+r.n≤ticks L:=by
 have h1:=tidy_take_ticks L (i+1);rw[tidy_more hr,ho,ticks_push,ticks_append] at h1;simp only[ticks] at h1;omega
structure LastR(W:World)(B:Nat)(ad:Addr)(k c:Nat)(o:List Rn)(y:Rn):Prop where
 g:∃ g,ad=⟨g,0,none⟩∧OwnV 114 2 W B (some ⟨g,0,none⟩) (k+1) c (rs (o++[y]))
 len:o.length=k
 c0:W.cell? (ad.add (k*2))=some (.int .i64 y.p)
 c1:W.cell? ⟨(ad.add (k*2)).block,(ad.add (k*2)).off+1,none⟩=some (.int .i64 (y.n:Int))
 f1:W.frozen? ⟨(ad.add (k*2)).block,(ad.add (k*2)).off+1,none⟩=false
 lt:ad.block < W.heap.size
theorem add_two(g k:Nat):(⟨((⟨g,0,none⟩:Addr).add (k*2)).block,((⟨g,0,none⟩:Addr).add (k*2)).off+1,none⟩:Addr)=⟨g,k*2+1,none⟩:=by
 unfold Addr.add;split
 ·rename_i h;rw[h]
 simp
theorem add_one'(g k:Nat):(⟨g,0,none⟩:Addr).add k=⟨g,k,none⟩:=by
 unfold Addr.add;split
 ·rename_i h;rw[h]
 simp
theorem LastR.of{W:World}{B m c:Nat}{A:Option Addr}{o:List Rn}{y:Rn}(h:OwnV 114 2 W B A m c (rs (o++[y]))):∃(ad:Addr) (k:Nat),A=some ad∧m=k+1∧LastR W B ad k c o y:=by
 have hl:=h.len;rw[rs_length,List.length_append,List.length_singleton] at hl;obtain⟨k,hk⟩:∃ k,o.length=k:=⟨_,rfl⟩;have hm:m=k+1:=by omega
 subst hm;obtain⟨g,rfl,hg,hlt⟩:=h.block (by omega);have hget:(o++[y])[k]'(by simp;omega)=y:=by
  simp[← hk]
 obtain⟨e0,e1⟩:=rs_get (o++[y]) k (by simp;omega);rw[hget] at e0 e1;refine⟨_,k,rfl,rfl,⟨g,rfl,h⟩,hk,?_,?_,?_,hlt⟩
 ·rw[add_one'];exact(World.ownsRow.cellAt h (k*2) (by omega)).trans e0
 ·rw[add_two];exact(World.ownsRow.cellAt h (k*2+1) (by omega)).trans e1
 rw[add_two];exact World.ownsRow.frozenAt h _
theorem LastR.stored{W:World}{B k c:Nat}{ad:Addr}{o:List Rn}{y:Rn}(h:LastR W B ad k c o y)(N:Nat):
  OwnV 114 2 (W.setCell ⟨(ad.add (k*2)).block,(ad.add (k*2)).off+1,none⟩ (.int .i64 (N:Int))) B (some ad) (k+1) c (rs (o++[⟨y.p,N⟩])) ∧
   ∀ V,Below B V W→Below B V (W.setCell ⟨(ad.add (k*2)).block,(ad.add (k*2)).off+1,none⟩ (.int .i64 (N:Int))):=by
 obtain⟨g,rfl,hw⟩:=h.g
 rw[add_two]
 have h1:=(World.ownsRow.stored hw (k*2+1) (.int .i64 (N:Int))).1
 have e:(rs (o++[y])).set (k*2+1) (.int .i64 (N:Int))=rs (o++[⟨y.p,N⟩]):=by
  rw[rs_append,rs_append,List.set_append_right _ _ (by rw[rs_length,h.len];omega),rs_length,h.len]
  have:k*2+1 - k*2=1:=by omega
  rw[this]
  rfl
 rw[e] at h1
 refine⟨h1,fun V hV=>?_⟩
 have hge:B≤g:=by
  obtain⟨g',e',hb,_⟩:=OwnV.block hw (by omega)
  injection e' with e'
  injection e' with e'
  omega
 exact hV.setCell (p:=⟨g,k*2+1,none⟩) hge _
theorem LastR.drewN{W:World}{B k c:Nat}{ad:Addr}{o:List Rn}{y:Rn}(h:LastR W B ad k c o y)(q:Nat):LastR (W.drewN q) B ad k c o y:=⟨h.g,h.len,h.c0,h.c1,h.f1,h.lt⟩
theorem LastR.drew{W:World}{B k c:Nat}{ad:Addr}{o:List Rn}{y:Rn}(h:LastR W B ad k c o y):LastR W.drew B ad k c o y:=⟨h.g,h.len,h.c0,h.c1,h.f1,h.lt⟩
theorem tidy_any(A:Option Addr)(n cap:Nat)(L:List Rn)(w:World)(h:RdR w w.heap.size A n L)(hc:n≤cap)(hn:n≤1048576)(ht:ticks L≤1099511627776):
  Calls Tryz.prog 115 #[.slice A n cap] w (MadeR (tidy L) w):=by
 go_enter Tryz.func115,Tryz.ntmps115;go_wp2_with fail;go_loopw [3,9] (fun q s wr=>∃(i m c':Nat) (A':Option Addr),i≤n∧s=.int .i64 i∧q=.slice A' m c'∧m≤i∧OwnV 114 2 wr w.heap.size A' m c' (rs (tidy (L.take i)))∧Below w.heap.size w wr) (fun _ s _=>n - (intOf s).toNat)
 case atStart=>exact⟨0,0,0,none,by omega,rfl,rfl,by omega,by simpa [tidy,tidyOn,rs] using OwnV.nil _ _ _ _,Below.refl _ _⟩
 obtain⟨i,m,c',A',hi,rfl,rfl,hm,how,hb⟩:=hrel;have HOW:=hid how;clear how;by_cases hlt:i < n
 ·obtain⟨ad,r,rfl,had,hr,c0,c1⟩:=(h.on hb).at_ hlt;have hmore:=tidy_more hr;have hcs:=tpush_cases (tidy (L.take i)) r;rw[← hmore] at hcs;have hbl:=bl1 wr (.cells #[.int .i64 r.p,.int .i64 (r.n:Int)] 114);have hb1:=hb.trans (hbl.mono hb.size);have hle:=tidy_take_le L (i+1);have how1:=HOW.out.below rfl hbl;have hsum:∀ o y,tidy (L.take i)=o++[y]→y.n+r.n≤ticks L:=fun o y e=>tidy_one hr e;generalize tidy (L.take i)=T at HOW hcs how1 hsum;generalize hT1:tidy (L.take (i+1))=T1 at hcs hle;have HT1:=hid hT1;have HB1:=hid hb1;clear hT1 hmore hr hbl hb1 HOW;rcases hcs with ⟨h0,e⟩ | ⟨h0,e0,e⟩ | ⟨o,y,h0,e0,hp,e⟩ | ⟨o,y,h0,e0,hp,e⟩
  ·have hr1:(r.n:Int) < 1:=by omega
   subst e;have HOW1:=hid how1;clear how1 hsum h0;go_wp2_with fail;go_roundw
   case rel=>exact⟨i+1,m,c',A',by omega,by go_num,rfl,by omega,by rw[HT1.out];exact HOW1.out,HB1.out⟩
   simp[intOf];omega
  ·subst e0;have hm0:m=0:=by have:=how1.len;simp[rs] at this;omega
   subst hm0;have hr1:¬ (r.n:Int) < 1:=by omega
   subst e;clear hsum h0;go_wp2_with fail;go_quiet (fail);have hW0:Below wr.heap.size wr ((wr.alloc (.cells #[.int .i64 r.p,.int .i64 (r.n:Int)] 114)).drewN nq):=Below.drewN (bl1 wr _) nq;have hs0:wr.heap.size < ((wr.alloc (.cells #[.int .i64 r.p,.int .i64 (r.n:Int)] 114)).drewN nq).heap.size:=by simp
   have b0:((wr.alloc (.cells #[.int .i64 r.p,.int .i64 (r.n:Int)] 114)).drewN nq).cell? ⟨wr.heap.size,0,none⟩=some (.int .i64 r.p):=World.cell?_alloc_mark _ _ _ _ _;have b1:((wr.alloc (.cells #[.int .i64 r.p,.int .i64 (r.n:Int)] 114)).drewN nq).cell? ⟨wr.heap.size,1,none⟩=some (.int .i64 (r.n:Int)):=World.cell?_alloc_mark _ _ _ _ _;have how2:OwnV 114 2 ((wr.alloc (.cells #[.int .i64 r.p,.int .i64 (r.n:Int)] 114)).drewN nq) w.heap.size A' 0 c' (rs []):=how1.keep fun _ _ _=>rfl;generalize (wr.alloc (.cells #[.int .i64 r.p,.int .i64 (r.n:Int)] 114)).drewN nq=W at hW0 hs0 b0 b1 how2 ⊢;have how3:=how2.below rfl (bl1 W (.cells #[.int .i64 r.p,.int .i64 (r.n:Int)] 114));have hrd:=rdV_new W #[.int .i64 r.p,.int .i64 (r.n:Int)] 114 (rs [r]) rfl;have hbW:=(hb.trans (hW0.mono hb.size)).alloc (by have:=hb.size;omega) (.cells #[.int .i64 r.p,.int .i64 (r.n:Int)] 114);have hn1:0+1≤1048577:=by omega
   clear how1 how2 c0 c1;go_wp2_with (at_builtin;go_loud (refine wpList_appV elR rfl (.tmp 43) (.tmp 45) rfl rfl w.heap.size _ _ c' _ rfl how3 _ 1 1 _ _ rfl hrd rfl (rs_one _) (by omega) (by unfold maxLen;omega) hbW.size (0+1) rfl (rs ([]++[r])) (rs_append _ _).symm ?_;intro A2 c2 w2 hw2 hb2 _));go_roundw
   case rel=>exact⟨i+1,_,c2,A2,by omega,by go_num,rfl,by omega,by rw[HT1.out];exact hw2,hbW.trans hb2⟩
   simp[intOf];omega
  ·subst e0;have hr1:¬ (r.n:Int) < 1:=by omega
   have hs1:=hsum o y rfl;obtain⟨ad',k,rfl,rfl,hL⟩:=LastR.of how1;obtain⟨yp,yn⟩:=y;obtain⟨rp,rn⟩:=r;dsimp only at hp hr1 hs1 c0 c1 e h0 ⊢;subst hp;have HL:=hid hL;have d0:=hL.c0;have d1:=hL.c1;have d2:=hL.f1;have d3:=hL.lt;dsimp only at d0 d1 d2 d3;clear hsum h0 hL how1;go_wp2_with fail;go_quiet (fail);go_wp2_with fail;have hbW:=hb.trans ((Below.drewN (bl1 wr (.cells #[.int .i64 yp,.int .i64 (rn:Int)] 114)) nq).mono hb.size);have b1:((wr.alloc (.cells #[.int .i64 yp,.int .i64 (rn:Int)] 114)).drewN nq).cell? ⟨wr.heap.size,1,none⟩=some (.int .i64 (rn:Int)):=World.cell?_alloc_mark _ _ _ _ _;have HL2:=hid (HL.out.drewN nq);have d1:=HL2.out.c1;have d2:=HL2.out.f1;have d3:=HL2.out.lt;dsimp only at d1 d2 d3;have HB2:=hid hbW;clear HL d0 c0 c1 hbW HB1;generalize (wr.alloc (.cells #[.int .i64 yp,.int .i64 (rn:Int)] 114)).drewN nq=W at b1 HL2 d1 d2 d3 HB2 ⊢;generalize wr.heap.size=gx at b1 ⊢;have hmr:=more_any (yn:Int) (rn:Int) _ _ W.drew (by omega) (by omega) (by omega) rfl rfl;have hkk:(k:Int) < (k:Int)+1:=by omega
   go_still_tail 12,(by kernel_rfl)
   still_call hmr
   repeat still_step
   refine wpStill_nil ?_;change wpList _ _ _ _ _ W.drew;go_wp2_with fail;obtain⟨hw5,hb5⟩:=(HL2.out.drew).stored (yn+rn);rw[Int.natCast_add] at hw5 hb5;rw[← e] at hw5;go_roundw
   case rel=>exact⟨i+1,_,c',some ad',by omega,by go_num,rfl,by omega,by rw[HT1.out];exact hw5,hb5 _ HB2.out.drew⟩
   simp[intOf];omega
  subst e0;have hr1:¬ (r.n:Int) < 1:=by omega
  obtain⟨ad',k,rfl,rfl,hL⟩:=LastR.of how1;have hpb:(y.p == r.p)=false:=beq_eq_false_iff_ne.2 hp;have d0:=hL.c0;have d3:=hL.lt;subst e;clear hsum h0 hL hp;go_wp2_with fail;go_quiet (fail);have hW0:Below wr.heap.size wr ((wr.alloc (.cells #[.int .i64 r.p,.int .i64 (r.n:Int)] 114)).drewN nq):=Below.drewN (bl1 wr _) nq;have hs0:wr.heap.size < ((wr.alloc (.cells #[.int .i64 r.p,.int .i64 (r.n:Int)] 114)).drewN nq).heap.size:=by simp
  have b0:((wr.alloc (.cells #[.int .i64 r.p,.int .i64 (r.n:Int)] 114)).drewN nq).cell? ⟨wr.heap.size,0,none⟩=some (.int .i64 r.p):=World.cell?_alloc_mark _ _ _ _ _;have b1:((wr.alloc (.cells #[.int .i64 r.p,.int .i64 (r.n:Int)] 114)).drewN nq).cell? ⟨wr.heap.size,1,none⟩=some (.int .i64 (r.n:Int)):=World.cell?_alloc_mark _ _ _ _ _;have how2:OwnV 114 2 ((wr.alloc (.cells #[.int .i64 r.p,.int .i64 (r.n:Int)] 114)).drewN nq) w.heap.size (some ad') (k+1) c' (rs (o++[y])):=how1.keep fun _ _ _=>rfl;generalize (wr.alloc (.cells #[.int .i64 r.p,.int .i64 (r.n:Int)] 114)).drewN nq=W at hW0 hs0 b0 b1 how2 ⊢;have how3:=how2.below rfl (bl1 W (.cells #[.int .i64 r.p,.int .i64 (r.n:Int)] 114));have hrd:=rdV_new W #[.int .i64 r.p,.int .i64 (r.n:Int)] 114 (rs [r]) rfl;have hbW:=(hb.trans (hW0.mono hb.size)).alloc (by have:=hb.size;omega) (.cells #[.int .i64 r.p,.int .i64 (r.n:Int)] 114);have hn1:(k+1)+1≤1048577:=by omega
  clear how1 how2 c0 c1;go_wp2_with (at_builtin;go_loud (refine wpList_appV elR rfl (.tmp 43) (.tmp 45) rfl rfl w.heap.size _ _ c' _ rfl how3 _ 1 1 _ _ rfl hrd rfl (rs_one _) (by omega) (by unfold maxLen;omega) hbW.size ((k+1)+1) rfl (rs ((o++[y])++[r])) (rs_append _ _).symm ?_;intro A2 c2 w2 hw2 hb2 _));go_roundw
  case rel=>exact⟨i+1,_,c2,A2,by omega,by go_num,rfl,by omega,by rw[HT1.out];exact hw2,hbW.trans hb2⟩
  simp[intOf];omega
 have hge:n≤i:=by omega
 have e:L.take i=L:=List.take_of_length_le (by rw[h.len];exact hge);have how2:=HOW.out;rw[e] at how2;have HOW2:=hid how2;clear e how2 HOW;go_wp2_with fail;go_ret;have hl:=HOW2.out.len;rw[rs_length] at hl;have hl2:m=(tidy L).length:=by omega
 subst hl2;exact⟨A',c',rfl,HOW2.out.rdr,HOW2.out.cap,hb,HOW2.out.newer⟩
theorem rtidy_any(A:Option Addr)(n cap:Nat)(L:List Rn)(w:World)(h:RdR w w.heap.size A n L)(hc:n≤cap)(hn:n≤1048576)(ht:ticks L≤1099511627776):
  Calls Tryz.prog 66 #[.slice A n cap] w (MadeR (tidy L) w):=by
 go_enter Tryz.func66,Tryz.ntmps66;go_wp2_with fail;go_loopw [3,9] (fun q s wr=>∃(i m c':Nat) (A':Option Addr),i≤n∧s=.int .i64 i∧q=.slice A' m c'∧m≤i∧OwnV 114 2 wr w.heap.size A' m c' (rs (tidy (L.take i)))∧Below w.heap.size w wr) (fun _ s _=>n - (intOf s).toNat)
 case atStart=>exact⟨0,0,0,none,by omega,rfl,rfl,by omega,by simpa [tidy,tidyOn,rs] using OwnV.nil _ _ _ _,Below.refl _ _⟩
 obtain⟨i,m,c',A',hi,rfl,rfl,hm,how,hb⟩:=hrel;have HOW:=hid how;clear how;by_cases hlt:i < n
 ·obtain⟨ad,r,rfl,had,hr,c0,c1⟩:=(h.on hb).at_ hlt;have hmore:=tidy_more hr;have hcs:=tpush_cases (tidy (L.take i)) r;rw[← hmore] at hcs;have hbl:=bl1 wr (.cells #[.int .i64 r.p,.int .i64 (r.n:Int)] 114);have hb1:=hb.trans (hbl.mono hb.size);have hle:=tidy_take_le L (i+1);have how1:=HOW.out.below rfl hbl;have hsum:∀ o y,tidy (L.take i)=o++[y]→y.n+r.n≤ticks L:=fun o y e=>tidy_one hr e;generalize tidy (L.take i)=T at HOW hcs how1 hsum;generalize hT1:tidy (L.take (i+1))=T1 at hcs hle;have HT1:=hid hT1;have HB1:=hid hb1;clear hT1 hmore hr hbl hb1 HOW;rcases hcs with ⟨h0,e⟩ | ⟨h0,e0,e⟩ | ⟨o,y,h0,e0,hp,e⟩ | ⟨o,y,h0,e0,hp,e⟩
  ·have hr1:(r.n:Int) < 1:=by omega
   subst e;have HOW1:=hid how1;clear how1 hsum h0;go_wp2_with fail;go_roundw
   case rel=>exact⟨i+1,m,c',A',by omega,by go_num,rfl,by omega,by rw[HT1.out];exact HOW1.out,HB1.out⟩
   simp[intOf];omega
  ·subst e0;have hm0:m=0:=by have:=how1.len;simp[rs] at this;omega
   subst hm0;have hr1:¬ (r.n:Int) < 1:=by omega
   subst e;clear hsum h0;go_wp2_with fail;go_quiet (fail);have hW0:Below wr.heap.size wr ((wr.alloc (.cells #[.int .i64 r.p,.int .i64 (r.n:Int)] 114)).drewN nq):=Below.drewN (bl1 wr _) nq;have hs0:wr.heap.size < ((wr.alloc (.cells #[.int .i64 r.p,.int .i64 (r.n:Int)] 114)).drewN nq).heap.size:=by simp
   have b0:((wr.alloc (.cells #[.int .i64 r.p,.int .i64 (r.n:Int)] 114)).drewN nq).cell? ⟨wr.heap.size,0,none⟩=some (.int .i64 r.p):=World.cell?_alloc_mark _ _ _ _ _;have b1:((wr.alloc (.cells #[.int .i64 r.p,.int .i64 (r.n:Int)] 114)).drewN nq).cell? ⟨wr.heap.size,1,none⟩=some (.int .i64 (r.n:Int)):=World.cell?_alloc_mark _ _ _ _ _;have how2:OwnV 114 2 ((wr.alloc (.cells #[.int .i64 r.p,.int .i64 (r.n:Int)] 114)).drewN nq) w.heap.size A' 0 c' (rs []):=how1.keep fun _ _ _=>rfl;generalize (wr.alloc (.cells #[.int .i64 r.p,.int .i64 (r.n:Int)] 114)).drewN nq=W at hW0 hs0 b0 b1 how2 ⊢;have how3:=how2.below rfl (bl1 W (.cells #[.int .i64 r.p,.int .i64 (r.n:Int)] 114));have hrd:=rdV_new W #[.int .i64 r.p,.int .i64 (r.n:Int)] 114 (rs [r]) rfl;have hbW:=(hb.trans (hW0.mono hb.size)).alloc (by have:=hb.size;omega) (.cells #[.int .i64 r.p,.int .i64 (r.n:Int)] 114);have hn1:0+1≤1048577:=by omega
   clear how1 how2 c0 c1;go_wp2_with (at_builtin;go_loud (refine wpList_appV elR rfl (.tmp 45) (.tmp 47) rfl rfl w.heap.size _ _ c' _ rfl how3 _ 1 1 _ _ rfl hrd rfl (rs_one _) (by omega) (by unfold maxLen;omega) hbW.size (0+1) rfl (rs ([]++[r])) (rs_append _ _).symm ?_;intro A2 c2 w2 hw2 hb2 _));go_roundw
   case rel=>exact⟨i+1,_,c2,A2,by omega,by go_num,rfl,by omega,by rw[HT1.out];exact hw2,hbW.trans hb2⟩
   simp[intOf];omega
  ·subst e0;have hr1:¬ (r.n:Int) < 1:=by omega
   have hs1:=hsum o y rfl;obtain⟨ad',k,rfl,rfl,hL⟩:=LastR.of how1;obtain⟨yp,yn⟩:=y;obtain⟨rp,rn⟩:=r;dsimp only at hp hr1 hs1 c0 c1 e h0 ⊢;subst hp;have HL:=hid hL;have d0:=hL.c0;have d1:=hL.c1;have d2:=hL.f1;have d3:=hL.lt;dsimp only at d0 d1 d2 d3;clear hsum h0 hL how1;go_wp2_with fail;go_quiet (fail);go_wp2_with fail;have hbW:=hb.trans ((Below.drewN (bl1 wr (.cells #[.int .i64 yp,.int .i64 (rn:Int)] 114)) nq).mono hb.size);have b1:((wr.alloc (.cells #[.int .i64 yp,.int .i64 (rn:Int)] 114)).drewN nq).cell? ⟨wr.heap.size,1,none⟩=some (.int .i64 (rn:Int)):=World.cell?_alloc_mark _ _ _ _ _;have HL2:=hid (HL.out.drewN nq);have d1:=HL2.out.c1;have d2:=HL2.out.f1;have d3:=HL2.out.lt;dsimp only at d1 d2 d3;have HB2:=hid hbW;clear HL d0 c0 c1 hbW HB1;generalize (wr.alloc (.cells #[.int .i64 yp,.int .i64 (rn:Int)] 114)).drewN nq=W at b1 HL2 d1 d2 d3 HB2 ⊢;generalize wr.heap.size=gx at b1 ⊢;have hmr:=sum_any (yn:Int) (rn:Int) _ _ W.drew (by omega) (by omega) (by omega) rfl rfl;have hkk:(k:Int) < (k:Int)+1:=by omega
   have hkw:IntKind.i64.wrap (k:Int)=(k:Int):=IntWalk.i64_in _ (by omega);go_still_tail 14,(by kernel_rfl)
   still_call hmr
   repeat still_step
   refine wpStill_nil ?_;clear hkw;change wpList _ _ _ _ _ W.drew;go_wp2_with fail;obtain⟨hw5,hb5⟩:=(HL2.out.drew).stored (yn+rn);rw[Int.natCast_add] at hw5 hb5;rw[← e] at hw5;go_roundw
   case rel=>exact⟨i+1,_,c',some ad',by omega,by go_num,rfl,by omega,by rw[HT1.out];exact hw5,hb5 _ HB2.out.drew⟩
   simp[intOf];omega
  subst e0;have hr1:¬ (r.n:Int) < 1:=by omega
  obtain⟨ad',k,rfl,rfl,hL⟩:=LastR.of how1;have hpb:(y.p == r.p)=false:=beq_eq_false_iff_ne.2 hp;have d0:=hL.c0;have d3:=hL.lt;subst e;clear hsum h0 hL hp;go_wp2_with fail;go_quiet (fail);have hW0:Below wr.heap.size wr ((wr.alloc (.cells #[.int .i64 r.p,.int .i64 (r.n:Int)] 114)).drewN nq):=Below.drewN (bl1 wr _) nq;have hs0:wr.heap.size < ((wr.alloc (.cells #[.int .i64 r.p,.int .i64 (r.n:Int)] 114)).drewN nq).heap.size:=by simp
  have b0:((wr.alloc (.cells #[.int .i64 r.p,.int .i64 (r.n:Int)] 114)).drewN nq).cell? ⟨wr.heap.size,0,none⟩=some (.int .i64 r.p):=World.cell?_alloc_mark _ _ _ _ _;have b1:((wr.alloc (.cells #[.int .i64 r.p,.int .i64 (r.n:Int)] 114)).drewN nq).cell? ⟨wr.heap.size,1,none⟩=some (.int .i64 (r.n:Int)):=World.cell?_alloc_mark _ _ _ _ _;have how2:OwnV 114 2 ((wr.alloc (.cells #[.int .i64 r.p,.int .i64 (r.n:Int)] 114)).drewN nq) w.heap.size (some ad') (k+1) c' (rs (o++[y])):=how1.keep fun _ _ _=>rfl;generalize (wr.alloc (.cells #[.int .i64 r.p,.int .i64 (r.n:Int)] 114)).drewN nq=W at hW0 hs0 b0 b1 how2 ⊢;have how3:=how2.below rfl (bl1 W (.cells #[.int .i64 r.p,.int .i64 (r.n:Int)] 114));have hrd:=rdV_new W #[.int .i64 r.p,.int .i64 (r.n:Int)] 114 (rs [r]) rfl;have hbW:=(hb.trans (hW0.mono hb.size)).alloc (by have:=hb.size;omega) (.cells #[.int .i64 r.p,.int .i64 (r.n:Int)] 114);have hn1:(k+1)+1≤1048577:=by omega
  clear how1 how2 c0 c1;go_wp2_with (at_builtin;go_loud (refine wpList_appV elR rfl (.tmp 45) (.tmp 47) rfl rfl w.heap.size _ _ c' _ rfl how3 _ 1 1 _ _ rfl hrd rfl (rs_one _) (by omega) (by unfold maxLen;omega) hbW.size ((k+1)+1) rfl (rs ((o++[y])++[r])) (rs_append _ _).symm ?_;intro A2 c2 w2 hw2 hb2 _));go_roundw
  case rel=>exact⟨i+1,_,c2,A2,by omega,by go_num,rfl,by omega,by rw[HT1.out];exact hw2,hbW.trans hb2⟩
  simp[intOf];omega
 have hge:n≤i:=by omega
 have e:L.take i=L:=List.take_of_length_le (by rw[h.len];exact hge);have how2:=HOW.out;rw[e] at how2;have HOW2:=hid how2;clear e how2 HOW;go_wp2_with fail;go_ret;have hl:=HOW2.out.len;rw[rs_length] at hl;have hl2:m=(tidy L).length:=by omega
 subst hl2;exact⟨A',c',rfl,HOW2.out.rdr,HOW2.out.cap,hb,HOW2.out.newer⟩
def wordsL:List Rn→List Int
 | []=>[]
 | r::s=>List.replicate r.n r.p++wordsL s
theorem wordsL_len(L:List Rn):(wordsL L).length=ticks L:=by
 induction L with
 | nil=>rfl
 | cons r s ih=>simp only[wordsL,List.length_append,List.length_replicate,ih,ticks]
theorem wordsL_append(a b:List Rn):wordsL (a++b)=wordsL a++wordsL b:=by
 induction a with
 | nil=>rfl
 | cons r s ih=>simp only[List.cons_append,wordsL,ih,List.append_assoc]
theorem wordsL_more{L:List Rn}{i:Nat}{r:Rn}(h:L[i]? = some r):wordsL (L.take (i+1))=wordsL (L.take i)++List.replicate r.n r.p:=by
 obtain⟨hi,e⟩:=List.getElem?_eq_some_iff.1 h;rw[List.take_succ_eq_append_getElem hi,wordsL_append,e];simp[wordsL]
def MadI(W:List Int)(w:World)(e:Ending)(w':World):Prop:=∃ A c,e=.returned (.slice A W.length c)∧RdI w' w'.heap.size A W.length W∧W.length≤c∧Below w.heap.size w w'
theorem OwnV.rdi{w:World}{B n c:Nat}{A:Option Addr}{L:List Int}(h:OwnV 3 1 w B A n c (is L)):RdI w w.heap.size A n L:=⟨by have:=h.len;rw[is_length] at this;omega,h.rd⟩
theorem rep_snoc(n:Nat)(p:Int):List.replicate (n+1) p=List.replicate n p++[p]:=by rw[List.replicate_succ']
theorem words_any(A:Option Addr)(n cap:Nat)(L:List Rn)(w:World)(h:RdR w w.heap.size A n L)(hc:n≤cap)(hn:n≤1048576)(ht:ticks L≤8192):
  Calls Tryz.prog 69 #[.slice A n cap] w (MadI (wordsL L) w):=by
 have HT:=hid ht;clear ht;go_enter Tryz.func69,Tryz.ntmps69;go_wp2_with fail;go_loopw [3,5,6,9] (fun q _ _ s wr=>∃(i m c:Nat) (A':Option Addr),i≤n∧s=.int .i64 i∧q=.slice A' m c∧OwnV 3 1 wr w.heap.size A' m c (is (wordsL (L.take i)))∧Below w.heap.size w wr) (fun _ _ _ s _=>n - (intOf s).toNat)
 case atStart=>exact⟨0,0,0,none,by omega,rfl,rfl,by simpa [wordsL,is] using OwnV.nil _ _ _ _,Below.refl _ _⟩
 obtain⟨i,m,c,A',hi,rfl,rfl,how,hb⟩:=hrel;by_cases hlt:i < n
 ·obtain⟨ad,r,rfl,had,hr,c0,c1⟩:=(h.on hb).at_ hlt;have hbl:=bl1 wr (.cells #[.int .i64 r.p,.int .i64 (r.n:Int)] 114);have hb1:=hb.trans (hbl.mono hb.size);have hmore:=wordsL_more hr;have htk:=take_more hr;have hle:=take_ticks L (i+1);have hT:=HT.out;have how1:=how.below rfl hbl;have hm:=how.len;rw[is_length,wordsL_len,Nat.mul_one] at hm;have hmt:m+r.n≤8192:=by omega
  have HM:=hid hmore;have hwb:=hb.size;obtain⟨rp,rn⟩:=r;dsimp only at c0 c1 hmt how1 HM hb1;have hobk:obk A'≠some wr.heap.size:=fun e=>by
   cases A' with
   | none=>cases e
   | some a =>
    have hmp:0 < m∨m=0:=by omega
    rcases how.2 with ⟨hv,_⟩ | ⟨g',cap',cur,hv,_,hg',_⟩
    ·cases hv
    have h1:some a=some ⟨g',0,none⟩:=by injection hv
    injection h1 with h1;subst h1;have h2:=(Array.getElem?_eq_some_iff.1 hg').1;injection e with e;have e:g'=wr.heap.size:=e;omega
  clear hr hmore htk hle hT how hbl hb;generalize hG:wr.alloc (.cells #[.int .i64 rp,.int .i64 (rn:Int)] 114)=W1 at how1 hb1;have n0:W1.cell? ⟨wr.heap.size,0,none⟩=some (.int .i64 rp):=by rw[← hG];exact World.cell?_alloc_mark _ _ _ _ _
  have n1:W1.cell? ⟨wr.heap.size,1,none⟩=some (.int .i64 (rn:Int)):=by rw[← hG];exact World.cell?_alloc_mark _ _ _ _ _
  have hsz:wr.heap.size < W1.heap.size:=by rw[← hG];simp
  go_wp2_with fail;generalize wr.heap.size=g at n0 n1 hsz hwb hobk ⊢;clear hG c0 c1 had;go_loopw [3,6] (fun q s wx=>∃(j k c2:Nat) (A2:Option Addr),j≤rn∧s=.int .i64 j∧q=.slice A2 k c2∧k=m+j∧OwnV 3 1 wx w.heap.size A2 k c2 (is (wordsL (L.take i)++List.replicate j rp))∧Below w.heap.size w wx∧wx.cell? ⟨g,0,none⟩=some (.int .i64 rp)∧wx.cell? ⟨g,1,none⟩=some (.int .i64 (rn:Int))∧obk A2≠some g) (fun _ s _=>rn - (intOf s).toNat)
  case atStart=>exact⟨0,m,c,A',by omega,rfl,rfl,rfl,by simpa using how1,hb1,n0,n1,hobk⟩
  obtain⟨j,k,c2,A2,hj,rfl,rfl,hk,how2,hbx,n0,n1,hob⟩:=hrel;by_cases hjn:j < rn
  ·have hk8:(k:Int) < 8192:=by omega
   have hk9:k < 8192:=by omega
   have HKK:=hid hk;clear hk;have hbl2:=bl1 wr (.cells #[.int .i64 rp] 3);have how3:=how2.below rfl hbl2;have hrd:=rdV_new wr #[.int .i64 rp] 3 (is [rp]) rfl;have hb3:=hbx.trans (hbl2.mono hbx.size);have hgx:g < wr.heap.size:=by
    have:=World.block_lt_of_cell? wr _ n0;exact this
   go_wp2_with (at_builtin;go_loud (refine wpList_appX elI rfl (.tmp 24) (.tmp 27) rfl rfl w.heap.size A2 k c2 _ rfl how3 _ 1 1 _ _ rfl hrd rfl Nat.one_pos (is_one _) (by omega) (by unfold maxLen;omega) hb3.size (k+1) rfl (is (wordsL (L.take i)++List.replicate (j+1) rp)) (by rw[rep_snoc,← List.append_assoc];exact(is_append _ _).symm) ?_;intro A4 c4 w4 hw4 hb4 hot));go_roundw
   case rel =>
    have hst:∀ o v,wr.cell? ⟨g,o,none⟩=some v→w4.cell? ⟨g,o,none⟩=some v:=fun o v hv=>by
     have h1:w4.cell? ⟨g,o,none⟩=(wr.alloc (.cells #[.int .i64 rp] 3)).cell? ⟨g,o,none⟩:=World.cell?_of_block (hot.gb.block g (by simp;omega) (fun e=>hob e.symm));rw[h1,World.cell?_alloc_lt _ _ _ hgx];exact hv
    refine⟨j+1,k+1,c4,A4,by omega,by go_num,rfl,by have:=HKK.out;omega,hw4,hb3.trans hb4,hst _ _ n0,hst _ _ n1,?_⟩;rcases hot.at_ with e | ⟨g4,e,hge⟩
    ·rw[e];exact hob
    rw[e];intro e5;injection e5 with e5;simp at hge;omega
   simp[intOf];omega
  obtain rfl:j=rn:=by omega
  have how5:=how2;rw[← HM.out] at how5;have HOW5:=hid how5;clear how5 how2 hk;go_wp2_with fail;go_roundw
  case rel=>exact⟨i+1,k,c2,A2,by omega,by go_num,rfl,HOW5.out,hbx⟩
  simp[intOf];omega
 have hge:n≤i:=by omega
 have e:L.take i=L:=List.take_of_length_le (by rw[h.len];exact hge);rw[e] at how;have hm:=how.len;rw[is_length,Nat.mul_one] at hm;go_wp2_with fail;go_ret;exact⟨A',c,by rw[hm];rfl,by rw[hm];exact how.rdi,by rw[hm];exact how.cap,hb⟩
end Go.Proofs.YtdkngfdnfekgfaaGreat
