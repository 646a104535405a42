import Derived.Test.YtfddpnhaejkacaaGreatLow4
import Derived.Test.YtfddpnhaejkacaaGreatLow2
import Derived.StillTailTactics
import Derived.Laws.OwnMore
import Derived.Laws.StructEq
import Derived.BigQuiet
import Derived.Test.YtfddpnhaejkacaaGreatLow1
set_option linter.unusedSimpArgs false
set_option linter.unusedVariables false
namespace Go.Proofs.YtfddpnhaejkacaaGreat
open Go.RowKit Tab
open Lib (hid)
def goneOf (w:World) (b:Nat):Nat:=match w.cell? ⟨b,36,none⟩ with
 | some (.int _ z)=>z.toNat
 | _=>0
theorem below_gb {B b:Nat} {w w1 w2:World} (h:Below B w w1) (hG:w1.grownBy w2 (some b)) (hB:B≤b) (hs:B≤w1.heap.size):Below B w w2 :=
 ⟨hG.os.trans h.os,hG.tape.trans h.tape,hG.output.trans h.output,Nat.le_trans h.size hG.size,fun j hj=>(hG.block j (by omega) (fun e=>by injection e with e;omega)).trans (h.block j hj)⟩
theorem take_more {L:List Rn} {i:Nat} {r:Rn} (h:L[i]? = some r):ticks (L.take (i+1))=ticks (L.take i)+r.n:=by
 obtain⟨hi,e⟩:=List.getElem?_eq_some_iff.1 h
 rw[List.take_succ_eq_append_getElem hi,ticks_append,e]
 simp[ticks]
theorem drop_more {L:List Rn} {i:Nat} {r:Rn} (h:L[i]? = some r):L.drop i=r::L.drop (i+1):=by
 obtain⟨hi,e⟩:=List.getElem?_eq_some_iff.1 h
 rw[List.drop_eq_getElem_cons hi,e]
theorem take_ticks (L:List Rn) (i:Nat):ticks (L.take i)≤ticks L:=by
 have:=ticks_append (L.take i) (L.drop i)
 rw[List.take_append_drop] at this
 omega
theorem tidy_take_ticks (L:List Rn) (i:Nat):ticks (tidy (L.take i))≤ticks L:=by rw[ticks_tidy];exact take_ticks L i
theorem tidy_one {L:List Rn} {i:Nat} {o:List Rn} {y r:Rn} (hr:L[i]? = some r) (ho:tidy (L.take i)=o++[y]):y.n+r.n≤ticks L:=by
 have h1:=tidy_take_ticks L (i+1)
 rw[tidy_more hr,ho,ticks_push,ticks_append] at h1
 simp only[ticks] at h1
 omega
structure LastR (W:World) (B:Nat) (ad:Addr) (k c:Nat) (o:List Rn) (y:Rn):Prop where
 g:∃ g,ad=⟨g,0,none⟩∧OwnV 75 2 W B (some ⟨g,0,none⟩) (k+1) c (rs (o++[y]))
 len:o.length=k
 c0:W.cell? (ad.add (k*2))=some (.int .i64 y.p)
 c1:W.cell? ⟨(ad.add (k*2)).block,(ad.add (k*2)).off+1,none⟩=some (.int .i64 (y.n:Int))
 f1:W.frozen? ⟨(ad.add (k*2)).block,(ad.add (k*2)).off+1,none⟩=false
 lt:ad.block < W.heap.size
theorem add_two (g k:Nat):(⟨((⟨g,0,none⟩:Addr).add (k*2)).block,((⟨g,0,none⟩:Addr).add (k*2)).off+1,none⟩:Addr)=⟨g,k*2+1,none⟩:=by
 unfold Addr.add
 split
 ·rename_i h
  rw[h]
 ·simp
theorem add_one' (g k:Nat):(⟨g,0,none⟩:Addr).add k=⟨g,k,none⟩:=by
 unfold Addr.add
 split
 ·rename_i h
  rw[h]
 ·simp
theorem LastR.of {W:World} {B m c:Nat} {A:Option Addr} {o:List Rn} {y:Rn} (h:OwnV 75 2 W B A m c (rs (o++[y]))):∃(ad:Addr) (k:Nat),A=some ad∧m=k+1∧LastR W B ad k c o y:=by
 have hl:=h.len
 rw[rs_length,List.length_append,List.length_singleton] at hl
 obtain⟨k,hk⟩:∃ k,o.length=k:=⟨_,rfl⟩
 have hm:m=k+1:=by omega
 subst hm
 obtain⟨g,rfl,hg,hlt⟩:=h.block (by omega)
 have hget:(o++[y])[k]'(by simp;omega)=y:=by
  simp[← hk]
 obtain⟨e0,e1⟩:=rs_get (o++[y]) k (by simp;omega)
 rw[hget] at e0 e1
 refine⟨_,k,rfl,rfl,⟨g,rfl,h⟩,hk,?_,?_,?_,hlt⟩
 ·rw[add_one']
  exact(World.ownsRow.cellAt h (k*2) (by omega)).trans e0
 ·rw[add_two]
  exact(World.ownsRow.cellAt h (k*2+1) (by omega)).trans e1
 ·rw[add_two]
  exact World.ownsRow.frozenAt h _
theorem LastR.stored {W:World} {B k c:Nat} {ad:Addr} {o:List Rn} {y:Rn} (h:LastR W B ad k c o y) (N:Nat) :
  OwnV 75 2 (W.setCell ⟨(ad.add (k*2)).block,(ad.add (k*2)).off+1,none⟩ (.int .i64 (N:Int))) B (some ad) (k+1) c (rs (o++[⟨y.p,N⟩])) ∧
   ∀ V,Below B V W→Below B V (W.setCell ⟨(ad.add (k*2)).block,(ad.add (k*2)).off+1,none⟩ (.int .i64 (N:Int))):=by
 obtain⟨g,rfl,hw⟩:=h.g
 rw[add_two]
 have h1:=(World.ownsRow.stored hw (k*2+1) (.int .i64 (N:Int))).1
 have e:(rs (o++[y])).set (k*2+1) (.int .i64 (N:Int))=rs (o++[⟨y.p,N⟩]):=by
  rw[rs_append,rs_append,List.set_append_right _ _ (by rw[rs_length,h.len];omega),rs_length,h.len]
  have:k*2+1 - k*2=1:=by omega
  rw[this]
  rfl
 rw[e] at h1
 refine⟨h1,fun V hV=>?_⟩
 have hge:B≤g:=by
  obtain⟨g',e',hb,_⟩:=OwnV.block hw (by omega)
  injection e' with e'
  injection e' with e'
  omega
 exact hV.setCell (p:=⟨g,k*2+1,none⟩) hge _
theorem LastR.drewN {W:World} {B k c:Nat} {ad:Addr} {o:List Rn} {y:Rn} (h:LastR W B ad k c o y) (q:Nat):LastR (W.drewN q) B ad k c o y:=⟨h.g,h.len,h.c0,h.c1,h.f1,h.lt⟩
theorem LastR.drew {W:World} {B k c:Nat} {ad:Addr} {o:List Rn} {y:Rn} (h:LastR W B ad k c o y):LastR W.drew B ad k c o y:=⟨h.g,h.len,h.c0,h.c1,h.f1,h.lt⟩
set_option maxRecDepth 100000 in
set_option maxHeartbeats 4000000 in
theorem tidy_any (A:Option Addr) (n cap:Nat) (L:List Rn) (w:World) (h:RdR w w.heap.size A n L) (hc:n≤cap) (hn:n≤1048576) (ht:ticks L≤1099511627776) :
  Calls Tryz.prog 71 #[.slice A n cap] w (MadeR (tidy L) w):=by
 go_enter Tryz.func71,Tryz.ntmps71
 go_wp2_with fail
 go_loopw [3,9] (fun q s wr=>∃(i m c':Nat) (A':Option Addr),i≤n∧s=.int .i64 i∧q=.slice A' m c'∧m≤i∧OwnV 75 2 wr w.heap.size A' m c' (rs (tidy (L.take i)))∧Below w.heap.size w wr) (fun _ s _=>n - (intOf s).toNat)
 case atStart=>exact⟨0,0,0,none,by omega,rfl,rfl,by omega,by simpa [tidy,tidyOn,rs] using OwnV.nil _ _ _ _,Below.refl _ _⟩
 case round =>
  obtain⟨i,m,c',A',hi,rfl,rfl,hm,how,hb⟩:=hrel
  have HOW:=hid how
  clear how
  by_cases hlt:i < n
  ·obtain⟨ad,r,rfl,had,hr,c0,c1⟩:=(h.on hb).at_ hlt
   have hmore:=tidy_more hr
   have hcs:=tpush_cases (tidy (L.take i)) r
   rw[← hmore] at hcs
   have hbl:=bl1 wr (.cells #[.int .i64 r.p,.int .i64 (r.n:Int)] 75)
   have hb1:=hb.trans (hbl.mono hb.size)
   have hle:=tidy_take_le L (i+1)
   have how1:=HOW.out.below rfl hbl
   have hsum:∀ o y,tidy (L.take i)=o++[y]→y.n+r.n≤ticks L:=fun o y e=>tidy_one hr e
   generalize tidy (L.take i)=T at HOW hcs how1 hsum
   generalize hT1:tidy (L.take (i+1))=T1 at hcs hle
   have HT1:=hid hT1
   have HB1:=hid hb1
   clear hT1 hmore hr hbl hb1 HOW
   rcases hcs with ⟨h0,e⟩ | ⟨h0,e0,e⟩ | ⟨o,y,h0,e0,hp,e⟩ | ⟨o,y,h0,e0,hp,e⟩
   ·have hr1:(r.n:Int) < 1:=by omega
    subst e
    have HOW1:=hid how1
    clear how1 hsum h0
    go_wp2_with fail
    go_roundw
    case rel=>exact⟨i+1,m,c',A',by omega,by go_num,rfl,by omega,by rw[HT1.out];exact HOW1.out,HB1.out⟩
    case measure=>simp[intOf];omega
   ·subst e0
    have hm0:m=0:=by have:=how1.len;simp[rs] at this;omega
    subst hm0
    have hr1:¬ (r.n:Int) < 1:=by omega
    subst e
    clear hsum h0
    go_wp2_with fail
    go_quiet (fail)
    have hW0:Below wr.heap.size wr ((wr.alloc (.cells #[.int .i64 r.p,.int .i64 (r.n:Int)] 75)).drewN nq):=Below.drewN (bl1 wr _) nq
    have hs0:wr.heap.size < ((wr.alloc (.cells #[.int .i64 r.p,.int .i64 (r.n:Int)] 75)).drewN nq).heap.size:=by simp
    have b0:((wr.alloc (.cells #[.int .i64 r.p,.int .i64 (r.n:Int)] 75)).drewN nq).cell? ⟨wr.heap.size,0,none⟩=some (.int .i64 r.p):=World.cell?_alloc_mark _ _ _ _ _
    have b1:((wr.alloc (.cells #[.int .i64 r.p,.int .i64 (r.n:Int)] 75)).drewN nq).cell? ⟨wr.heap.size,1,none⟩=some (.int .i64 (r.n:Int)):=World.cell?_alloc_mark _ _ _ _ _
    have how2:OwnV 75 2 ((wr.alloc (.cells #[.int .i64 r.p,.int .i64 (r.n:Int)] 75)).drewN nq) w.heap.size A' 0 c' (rs []):=how1.keep fun _ _ _=>rfl
    generalize (wr.alloc (.cells #[.int .i64 r.p,.int .i64 (r.n:Int)] 75)).drewN nq=W at hW0 hs0 b0 b1 how2 ⊢
    have how3:=how2.below rfl (bl1 W (.cells #[.int .i64 r.p,.int .i64 (r.n:Int)] 75))
    have hrd:=rdV_new W #[.int .i64 r.p,.int .i64 (r.n:Int)] 75 (rs [r]) rfl
    have hbW:=(hb.trans (hW0.mono hb.size)).alloc (by have:=hb.size;omega) (.cells #[.int .i64 r.p,.int .i64 (r.n:Int)] 75)
    have hn1:0+1≤1048577:=by omega
    clear how1 how2 c0 c1
    go_wp2_with (at_builtin;go_loud (refine wpList_appV elR rfl (.tmp 43) (.tmp 45) rfl rfl w.heap.size _ _ c' _ rfl how3 _ 1 1 _ _ rfl hrd rfl (rs_one _) (by omega) (by unfold maxLen;omega) hbW.size (0+1) rfl (rs ([]++[r])) (rs_append _ _).symm ?_;intro A2 c2 w2 hw2 hb2 _))
    go_roundw
    case rel=>exact⟨i+1,_,c2,A2,by omega,by go_num,rfl,by omega,by rw[HT1.out];exact hw2,hbW.trans hb2⟩
    case measure=>simp[intOf];omega
   ·subst e0
    have hr1:¬ (r.n:Int) < 1:=by omega
    have hs1:=hsum o y rfl
    obtain⟨ad',k,rfl,rfl,hL⟩:=LastR.of how1
    obtain⟨yp,yn⟩:=y
    obtain⟨rp,rn⟩:=r
    dsimp only at hp hr1 hs1 c0 c1 e h0 ⊢
    subst hp
    have HL:=hid hL
    have d0:=hL.c0
    have d1:=hL.c1
    have d2:=hL.f1
    have d3:=hL.lt
    dsimp only at d0 d1 d2 d3
    clear hsum h0 hL how1
    go_wp2_with fail
    go_quiet (fail)
    go_wp2_with fail
    have hbW:=hb.trans ((Below.drewN (bl1 wr (.cells #[.int .i64 yp,.int .i64 (rn:Int)] 75)) nq).mono hb.size)
    have b1:((wr.alloc (.cells #[.int .i64 yp,.int .i64 (rn:Int)] 75)).drewN nq).cell? ⟨wr.heap.size,1,none⟩=some (.int .i64 (rn:Int)):=World.cell?_alloc_mark _ _ _ _ _
    have HL2:=hid (HL.out.drewN nq)
    have d1:=HL2.out.c1
    have d2:=HL2.out.f1
    have d3:=HL2.out.lt
    dsimp only at d1 d2 d3
    have HB2:=hid hbW
    clear HL d0 c0 c1 hbW HB1
    generalize (wr.alloc (.cells #[.int .i64 yp,.int .i64 (rn:Int)] 75)).drewN nq=W at b1 HL2 d1 d2 d3 HB2 ⊢
    generalize wr.heap.size=gx at b1 ⊢
    have hmr:=more_any (yn:Int) (rn:Int) _ _ W.drew (by omega) (by omega) (by omega) rfl rfl
    have hkk:(k:Int) < (k:Int)+1:=by omega
    go_still_tail 12,(by kernel_rfl)
    still_call hmr
    repeat still_step
    refine wpStill_nil ?_
    change wpList _ _ _ _ _ W.drew
    go_wp2_with fail
    obtain⟨hw5,hb5⟩:=(HL2.out.drew).stored (yn+rn)
    rw[Int.natCast_add] at hw5 hb5
    rw[← e] at hw5
    go_roundw
    case rel=>exact⟨i+1,_,c',some ad',by omega,by go_num,rfl,by omega,by rw[HT1.out];exact hw5,hb5 _ HB2.out.drew⟩
    case measure=>simp[intOf];omega
   ·subst e0
    have hr1:¬ (r.n:Int) < 1:=by omega
    obtain⟨ad',k,rfl,rfl,hL⟩:=LastR.of how1
    have hpb:(y.p == r.p)=false:=beq_eq_false_iff_ne.2 hp
    have d0:=hL.c0
    have d3:=hL.lt
    subst e
    clear hsum h0 hL hp
    go_wp2_with fail
    go_quiet (fail)
    have hW0:Below wr.heap.size wr ((wr.alloc (.cells #[.int .i64 r.p,.int .i64 (r.n:Int)] 75)).drewN nq):=Below.drewN (bl1 wr _) nq
    have hs0:wr.heap.size < ((wr.alloc (.cells #[.int .i64 r.p,.int .i64 (r.n:Int)] 75)).drewN nq).heap.size:=by simp
    have b0:((wr.alloc (.cells #[.int .i64 r.p,.int .i64 (r.n:Int)] 75)).drewN nq).cell? ⟨wr.heap.size,0,none⟩=some (.int .i64 r.p):=World.cell?_alloc_mark _ _ _ _ _
    have b1:((wr.alloc (.cells #[.int .i64 r.p,.int .i64 (r.n:Int)] 75)).drewN nq).cell? ⟨wr.heap.size,1,none⟩=some (.int .i64 (r.n:Int)):=World.cell?_alloc_mark _ _ _ _ _
    have how2:OwnV 75 2 ((wr.alloc (.cells #[.int .i64 r.p,.int .i64 (r.n:Int)] 75)).drewN nq) w.heap.size (some ad') (k+1) c' (rs (o++[y])):=how1.keep fun _ _ _=>rfl
    generalize (wr.alloc (.cells #[.int .i64 r.p,.int .i64 (r.n:Int)] 75)).drewN nq=W at hW0 hs0 b0 b1 how2 ⊢
    have how3:=how2.below rfl (bl1 W (.cells #[.int .i64 r.p,.int .i64 (r.n:Int)] 75))
    have hrd:=rdV_new W #[.int .i64 r.p,.int .i64 (r.n:Int)] 75 (rs [r]) rfl
    have hbW:=(hb.trans (hW0.mono hb.size)).alloc (by have:=hb.size;omega) (.cells #[.int .i64 r.p,.int .i64 (r.n:Int)] 75)
    have hn1:(k+1)+1≤1048577:=by omega
    clear how1 how2 c0 c1
    go_wp2_with (at_builtin;go_loud (refine wpList_appV elR rfl (.tmp 43) (.tmp 45) rfl rfl w.heap.size _ _ c' _ rfl how3 _ 1 1 _ _ rfl hrd rfl (rs_one _) (by omega) (by unfold maxLen;omega) hbW.size ((k+1)+1) rfl (rs ((o++[y])++[r])) (rs_append _ _).symm ?_;intro A2 c2 w2 hw2 hb2 _))
    go_roundw
    case rel=>exact⟨i+1,_,c2,A2,by omega,by go_num,rfl,by omega,by rw[HT1.out];exact hw2,hbW.trans hb2⟩
    case measure=>simp[intOf];omega
  ·have hge:n≤i:=by omega
   have e:L.take i=L:=List.take_of_length_le (by rw[h.len];exact hge)
   have how2:=HOW.out
   rw[e] at how2
   have HOW2:=hid how2
   clear e how2 HOW
   go_wp2_with fail
   go_ret
   have hl:=HOW2.out.len
   rw[rs_length] at hl
   have hl2:m=(tidy L).length:=by omega
   subst hl2
   exact⟨A',c',rfl,HOW2.out.rdr,HOW2.out.cap,hb,HOW2.out.newer⟩
set_option maxRecDepth 100000 in
set_option maxHeartbeats 4000000 in
theorem rtidy_any (A:Option Addr) (n cap:Nat) (L:List Rn) (w:World) (h:RdR w w.heap.size A n L) (hc:n≤cap) (hn:n≤1048576) (ht:ticks L≤1099511627776) :
  Calls Tryz.prog 46 #[.slice A n cap] w (MadeR (tidy L) w):=by
 go_enter Tryz.func46,Tryz.ntmps46
 go_wp2_with fail
 go_loopw [3,9] (fun q s wr=>∃(i m c':Nat) (A':Option Addr),i≤n∧s=.int .i64 i∧q=.slice A' m c'∧m≤i∧OwnV 75 2 wr w.heap.size A' m c' (rs (tidy (L.take i)))∧Below w.heap.size w wr) (fun _ s _=>n - (intOf s).toNat)
 case atStart=>exact⟨0,0,0,none,by omega,rfl,rfl,by omega,by simpa [tidy,tidyOn,rs] using OwnV.nil _ _ _ _,Below.refl _ _⟩
 case round =>
  obtain⟨i,m,c',A',hi,rfl,rfl,hm,how,hb⟩:=hrel
  have HOW:=hid how
  clear how
  by_cases hlt:i < n
  ·obtain⟨ad,r,rfl,had,hr,c0,c1⟩:=(h.on hb).at_ hlt
   have hmore:=tidy_more hr
   have hcs:=tpush_cases (tidy (L.take i)) r
   rw[← hmore] at hcs
   have hbl:=bl1 wr (.cells #[.int .i64 r.p,.int .i64 (r.n:Int)] 75)
   have hb1:=hb.trans (hbl.mono hb.size)
   have hle:=tidy_take_le L (i+1)
   have how1:=HOW.out.below rfl hbl
   have hsum:∀ o y,tidy (L.take i)=o++[y]→y.n+r.n≤ticks L:=fun o y e=>tidy_one hr e
   generalize tidy (L.take i)=T at HOW hcs how1 hsum
   generalize hT1:tidy (L.take (i+1))=T1 at hcs hle
   have HT1:=hid hT1
   have HB1:=hid hb1
   clear hT1 hmore hr hbl hb1 HOW
   rcases hcs with ⟨h0,e⟩ | ⟨h0,e0,e⟩ | ⟨o,y,h0,e0,hp,e⟩ | ⟨o,y,h0,e0,hp,e⟩
   ·have hr1:(r.n:Int) < 1:=by omega
    subst e
    have HOW1:=hid how1
    clear how1 hsum h0
    go_wp2_with fail
    go_roundw
    case rel=>exact⟨i+1,m,c',A',by omega,by go_num,rfl,by omega,by rw[HT1.out];exact HOW1.out,HB1.out⟩
    case measure=>simp[intOf];omega
   ·subst e0
    have hm0:m=0:=by have:=how1.len;simp[rs] at this;omega
    subst hm0
    have hr1:¬ (r.n:Int) < 1:=by omega
    subst e
    clear hsum h0
    go_wp2_with fail
    go_quiet (fail)
    have hW0:Below wr.heap.size wr ((wr.alloc (.cells #[.int .i64 r.p,.int .i64 (r.n:Int)] 75)).drewN nq):=Below.drewN (bl1 wr _) nq
    have hs0:wr.heap.size < ((wr.alloc (.cells #[.int .i64 r.p,.int .i64 (r.n:Int)] 75)).drewN nq).heap.size:=by simp
    have b0:((wr.alloc (.cells #[.int .i64 r.p,.int .i64 (r.n:Int)] 75)).drewN nq).cell? ⟨wr.heap.size,0,none⟩=some (.int .i64 r.p):=World.cell?_alloc_mark _ _ _ _ _
    have b1:((wr.alloc (.cells #[.int .i64 r.p,.int .i64 (r.n:Int)] 75)).drewN nq).cell? ⟨wr.heap.size,1,none⟩=some (.int .i64 (r.n:Int)):=World.cell?_alloc_mark _ _ _ _ _
    have how2:OwnV 75 2 ((wr.alloc (.cells #[.int .i64 r.p,.int .i64 (r.n:Int)] 75)).drewN nq) w.heap.size A' 0 c' (rs []):=how1.keep fun _ _ _=>rfl
    generalize (wr.alloc (.cells #[.int .i64 r.p,.int .i64 (r.n:Int)] 75)).drewN nq=W at hW0 hs0 b0 b1 how2 ⊢
    have how3:=how2.below rfl (bl1 W (.cells #[.int .i64 r.p,.int .i64 (r.n:Int)] 75))
    have hrd:=rdV_new W #[.int .i64 r.p,.int .i64 (r.n:Int)] 75 (rs [r]) rfl
    have hbW:=(hb.trans (hW0.mono hb.size)).alloc (by have:=hb.size;omega) (.cells #[.int .i64 r.p,.int .i64 (r.n:Int)] 75)
    have hn1:0+1≤1048577:=by omega
    clear how1 how2 c0 c1
    go_wp2_with (at_builtin;go_loud (refine wpList_appV elR rfl (.tmp 45) (.tmp 47) rfl rfl w.heap.size _ _ c' _ rfl how3 _ 1 1 _ _ rfl hrd rfl (rs_one _) (by omega) (by unfold maxLen;omega) hbW.size (0+1) rfl (rs ([]++[r])) (rs_append _ _).symm ?_;intro A2 c2 w2 hw2 hb2 _))
    go_roundw
    case rel=>exact⟨i+1,_,c2,A2,by omega,by go_num,rfl,by omega,by rw[HT1.out];exact hw2,hbW.trans hb2⟩
    case measure=>simp[intOf];omega
   ·subst e0
    have hr1:¬ (r.n:Int) < 1:=by omega
    have hs1:=hsum o y rfl
    obtain⟨ad',k,rfl,rfl,hL⟩:=LastR.of how1
    obtain⟨yp,yn⟩:=y
    obtain⟨rp,rn⟩:=r
    dsimp only at hp hr1 hs1 c0 c1 e h0 ⊢
    subst hp
    have HL:=hid hL
    have d0:=hL.c0
    have d1:=hL.c1
    have d2:=hL.f1
    have d3:=hL.lt
    dsimp only at d0 d1 d2 d3
    clear hsum h0 hL how1
    go_wp2_with fail
    go_quiet (fail)
    go_wp2_with fail
    have hbW:=hb.trans ((Below.drewN (bl1 wr (.cells #[.int .i64 yp,.int .i64 (rn:Int)] 75)) nq).mono hb.size)
    have b1:((wr.alloc (.cells #[.int .i64 yp,.int .i64 (rn:Int)] 75)).drewN nq).cell? ⟨wr.heap.size,1,none⟩=some (.int .i64 (rn:Int)):=World.cell?_alloc_mark _ _ _ _ _
    have HL2:=hid (HL.out.drewN nq)
    have d1:=HL2.out.c1
    have d2:=HL2.out.f1
    have d3:=HL2.out.lt
    dsimp only at d1 d2 d3
    have HB2:=hid hbW
    clear HL d0 c0 c1 hbW HB1
    generalize (wr.alloc (.cells #[.int .i64 yp,.int .i64 (rn:Int)] 75)).drewN nq=W at b1 HL2 d1 d2 d3 HB2 ⊢
    generalize wr.heap.size=gx at b1 ⊢
    have hmr:=sum_any (yn:Int) (rn:Int) _ _ W.drew (by omega) (by omega) (by omega) rfl rfl
    have hkk:(k:Int) < (k:Int)+1:=by omega
    have hkw:IntKind.i64.wrap (k:Int)=(k:Int):=IntWalk.i64_in _ (by omega)
    go_still_tail 14,(by kernel_rfl)
    still_call hmr
    repeat still_step
    refine wpStill_nil ?_
    clear hkw
    change wpList _ _ _ _ _ W.drew
    go_wp2_with fail
    obtain⟨hw5,hb5⟩:=(HL2.out.drew).stored (yn+rn)
    rw[Int.natCast_add] at hw5 hb5
    rw[← e] at hw5
    go_roundw
    case rel=>exact⟨i+1,_,c',some ad',by omega,by go_num,rfl,by omega,by rw[HT1.out];exact hw5,hb5 _ HB2.out.drew⟩
    case measure=>simp[intOf];omega
   ·subst e0
    have hr1:¬ (r.n:Int) < 1:=by omega
    obtain⟨ad',k,rfl,rfl,hL⟩:=LastR.of how1
    have hpb:(y.p == r.p)=false:=beq_eq_false_iff_ne.2 hp
    have d0:=hL.c0
    have d3:=hL.lt
    subst e
    clear hsum h0 hL hp
    go_wp2_with fail
    go_quiet (fail)
    have hW0:Below wr.heap.size wr ((wr.alloc (.cells #[.int .i64 r.p,.int .i64 (r.n:Int)] 75)).drewN nq):=Below.drewN (bl1 wr _) nq
    have hs0:wr.heap.size < ((wr.alloc (.cells #[.int .i64 r.p,.int .i64 (r.n:Int)] 75)).drewN nq).heap.size:=by simp
    have b0:((wr.alloc (.cells #[.int .i64 r.p,.int .i64 (r.n:Int)] 75)).drewN nq).cell? ⟨wr.heap.size,0,none⟩=some (.int .i64 r.p):=World.cell?_alloc_mark _ _ _ _ _
    have b1:((wr.alloc (.cells #[.int .i64 r.p,.int .i64 (r.n:Int)] 75)).drewN nq).cell? ⟨wr.heap.size,1,none⟩=some (.int .i64 (r.n:Int)):=World.cell?_alloc_mark _ _ _ _ _
    have how2:OwnV 75 2 ((wr.alloc (.cells #[.int .i64 r.p,.int .i64 (r.n:Int)] 75)).drewN nq) w.heap.size (some ad') (k+1) c' (rs (o++[y])):=how1.keep fun _ _ _=>rfl
    generalize (wr.alloc (.cells #[.int .i64 r.p,.int .i64 (r.n:Int)] 75)).drewN nq=W at hW0 hs0 b0 b1 how2 ⊢
    have how3:=how2.below rfl (bl1 W (.cells #[.int .i64 r.p,.int .i64 (r.n:Int)] 75))
    have hrd:=rdV_new W #[.int .i64 r.p,.int .i64 (r.n:Int)] 75 (rs [r]) rfl
    have hbW:=(hb.trans (hW0.mono hb.size)).alloc (by have:=hb.size;omega) (.cells #[.int .i64 r.p,.int .i64 (r.n:Int)] 75)
    have hn1:(k+1)+1≤1048577:=by omega
    clear how1 how2 c0 c1
    go_wp2_with (at_builtin;go_loud (refine wpList_appV elR rfl (.tmp 45) (.tmp 47) rfl rfl w.heap.size _ _ c' _ rfl how3 _ 1 1 _ _ rfl hrd rfl (rs_one _) (by omega) (by unfold maxLen;omega) hbW.size ((k+1)+1) rfl (rs ((o++[y])++[r])) (rs_append _ _).symm ?_;intro A2 c2 w2 hw2 hb2 _))
    go_roundw
    case rel=>exact⟨i+1,_,c2,A2,by omega,by go_num,rfl,by omega,by rw[HT1.out];exact hw2,hbW.trans hb2⟩
    case measure=>simp[intOf];omega
  ·have hge:n≤i:=by omega
   have e:L.take i=L:=List.take_of_length_le (by rw[h.len];exact hge)
   have how2:=HOW.out
   rw[e] at how2
   have HOW2:=hid how2
   clear e how2 HOW
   go_wp2_with fail
   go_ret
   have hl:=HOW2.out.len
   rw[rs_length] at hl
   have hl2:m=(tidy L).length:=by omega
   subst hl2
   exact⟨A',c',rfl,HOW2.out.rdr,HOW2.out.cap,hb,HOW2.out.newer⟩
end Go.Proofs.YtfddpnhaejkacaaGreat
namespace Go.Proofs.YtfddpnhaejkacaaGreat
namespace Tab
def ndEq (x y:Nd):Bool:=decide (x.k=y.k) && decide (x.p=y.p) && decide (x.n=y.n)
theorem ndEq_iff (x y:Nd):ndEq x y=true↔x=y:=by
 obtain⟨a,b,c⟩:=x
 obtain⟨d,e,f⟩:=y
 unfold ndEq
 simp[Nd.mk.injEq,and_assoc]
def sameN:List Nd→List Nd→Bool
 | [],[]=>true
 | x::a,y::b=>ndEq x y && sameN a b
 | _,_=>false
theorem sameN_iff (a b:List Nd):sameN a b=true↔a=b:=by
 induction a generalizing b with
 | nil=>cases b <;> simp[sameN]
 | cons x a ih =>
  cases b with
  | nil=>simp[sameN]
  | cons y b=>simp only[sameN,Bool.and_eq_true,ndEq_iff,ih,List.cons.injEq]
theorem sameN_len {a b:List Nd} (h:¬ a.length=b.length):sameN a b=false:=by
 cases hs:sameN a b with
 | false=>rfl
 | true=>rw[sameN_iff] at hs;rw[hs] at h;exact absurd rfl h
def rnEq (x y:Rn):Bool:=decide (x.p=y.p) && decide (x.n=y.n)
theorem rnEq_iff (x y:Rn):rnEq x y=true↔x=y:=by
 obtain⟨a,b⟩:=x
 obtain⟨d,e⟩:=y
 unfold rnEq
 simp[Rn.mk.injEq]
def sameR:List Rn→List Rn→Bool
 | [],[]=>true
 | x::a,y::b=>rnEq x y && sameR a b
 | _,_=>false
theorem sameR_iff (a b:List Rn):sameR a b=true↔a=b:=by
 induction a generalizing b with
 | nil=>cases b <;> simp[sameR]
 | cons x a ih =>
  cases b with
  | nil=>simp[sameR]
  | cons y b=>simp only[sameR,Bool.and_eq_true,rnEq_iff,ih,List.cons.injEq]
theorem sameR_len {a b:List Rn} (h:¬ a.length=b.length):sameR a b=false:=by
 cases hs:sameR a b with
 | false=>rfl
 | true=>rw[sameR_iff] at hs;rw[hs] at h;exact absurd rfl h
theorem drop_rn {l:List Rn} {i:Nat} {x:Rn} (h:l[i]? = some x):l.drop i=x::l.drop (i+1):=by
 obtain⟨hi,e⟩:=List.getElem?_eq_some_iff.1 h
 rw[List.drop_eq_getElem_cons hi,e]
end Tab
end Go.Proofs.YtfddpnhaejkacaaGreat
namespace Go.Proofs.YtfddpnhaejkacaaGreat
open Go.RowKit Tab
open Lib (hid)
def Qui (v:Value) (w:World) (e:Ending) (w':World):Prop:=e=.returned v∧∃ m,w'=w.drewN m
theorem Qui.ans {v:Value} {w w':World} {e:Ending} (h:Qui v w e w'):Ans v w e w':=by
 obtain⟨h1,m,rfl⟩:=h
 exact⟨h1,Below.drewN (Below.refl _ _) m⟩
theorem Qui.sum {P:Program} {f:FuncId} {args:Array Value} {w:World} {q n:Nat} {v:Value} (h:Calls P f args (w.drewN (q+n)) (Qui v (w.drewN (q+n)))):Calls P f args (w.drewN (q+n)) fun e w''=>e=.returned v∧∃ m,w''=w.drewN (q+m) :=
 h.mono fun _ _ ⟨he,m,hm⟩=>⟨he,n+m,by rw[hm,World.drewN_drewN,Nat.add_assoc]⟩
theorem nd_neqs (x y:Nd) (W:World):(binOp .neq 83 (nd x.k x.p x.n) (nd y.k y.p y.n)).run Tryz.prog W=.ok (.bool (!(ndEq x y))) W:=by
 obtain⟨a,b,c⟩:=x
 obtain⟨d,e,f⟩:=y
 unfold ndEq
 by_cases h1:a=d
 ·by_cases h2:b=e
  ·by_cases h3:c=f
   ·subst h1;subst h2;subst h3
    simp[run_neq_struct,go_sem]
   ·subst h1;subst h2
    simp[run_neq_struct,go_sem,h3]
  ·subst h1
   simp[run_neq_struct,go_sem,h2]
 ·simp[run_neq_struct,go_sem,h1]
theorem rn_neqs (x y:Rn) (W:World):(binOp .neq 75 (rv x.p (x.n:Int)) (rv y.p (y.n:Int))).run Tryz.prog W=.ok (.bool (!(rnEq x y))) W:=by
 obtain⟨a,b⟩:=x
 obtain⟨d,e⟩:=y
 unfold rnEq
 by_cases h1:a=d
 ·by_cases h2:b=e
  ·subst h1;subst h2
   simp[run_neq_struct,go_sem]
  ·subst h1
   have h3:¬ (b:Int)=(e:Int):=by omega
   simp[run_neq_struct,go_sem,h2,h3]
 ·simp[run_neq_struct,go_sem,h1]
set_option maxRecDepth 100000 in
set_option maxHeartbeats 1600000 in
theorem eqn_any (A1 A2:Option Addr) (n m c1 c2:Nat) (l1 l2:List Nd) (w:World) (h1:RdN w w.heap.size A1 n l1) (h2:RdN w w.heap.size A2 m l2) (hn:n≤1048576) :
  Calls Tryz.prog 160 #[.slice A1 n c1,.slice A2 m c2] w (Qui (.bool (sameN l1 l2)) w):=by
 by_cases hnm:n=m
 ·subst hnm
  generalize hb:sameN l1 l2=b
  have HB:=hid hb
  clear hb
  go_enter Tryz.func160,Tryz.ntmps160
  go_wp2_with fail
  go_loopw [5,13] (fun _ s wr=>∃ i q:Nat,i≤n∧s=.int .i64 i∧sameN (l1.drop i) (l2.drop i)=b∧wr=w.drewN q) (fun _ s _=>n - (intOf s).toNat)
  case atStart=>exact⟨0,0,by omega,rfl,by simpa using HB.out,rfl⟩
  case round =>
   obtain⟨i,q,hi,rfl,hs,rfl⟩:=hrel
   have HS:=hid hs
   clear hs
   by_cases hlt:i < n
   ·obtain⟨ad,x,rfl,_,hx,hin,c0,c1',c2'⟩:=h1.at_ hlt
    obtain⟨ad2,y,rfl,_,hy,hin2,d0,d1,d2⟩:=h2.at_ hlt
    have e1:=drop_cons hx
    have e2:=drop_cons hy
    have hst:=HS.out
    rw[e1,e2] at hst
    simp only[sameN] at hst
    have HST:=hid hst
    have hne:=fun W=>nd_neqs x y W
    obtain⟨xk,xp,xn⟩:=x
    obtain⟨yk,yp,yn⟩:=y
    dsimp only at c0 c1' c2' d0 d1 d2 hne
    clear hx hy hin hin2 e1 e2 hst HS
    generalize hE:ndEq ⟨xk,xp,xn⟩ ⟨yk,yp,yn⟩=E at HST hne
    clear hE
    cases E with
    | true =>
     have hne:∀ W,(binOp .neq 83 (nd xk xp xn) (nd yk yp yn)).run Tryz.prog W=.ok (.bool false) W:=hne
     go_wp2_with fail
     go_quiet (fail)
     go_wp2_with fail
     go_roundw
     case rel=>exact⟨i+1,q+nq,by omega,by go_num,by simpa using HST.out,rfl⟩
     case measure=>simp[intOf];omega
    | false =>
     have hne:∀ W,(binOp .neq 83 (nd xk xp xn) (nd yk yp yn)).run Tryz.prog W=.ok (.bool true) W:=hne
     go_wp2_with fail
     go_quiet (fail)
     go_wp2_with fail
     go_ret
     exact⟨by have:=HST.out;simp at this;rw[← this];rfl,q+nq,by rw[World.drewN_drewN]⟩
   ·have hge:n≤i:=by omega
    have e1:l1.drop i=[]:=List.drop_eq_nil_of_le (by rw[h1.len];exact hge)
    have e2:l2.drop i=[]:=List.drop_eq_nil_of_le (by rw[h2.len];exact hge)
    have hst:=HS.out
    rw[e1,e2] at hst
    have HST:=hid hst
    clear hst HS e1 e2
    go_wp2_with fail
    go_ret
    exact⟨by rw[← HST.out];rfl,q,rfl⟩
 ·have hb:=sameN_len (a:=l1) (b:=l2) (by rw[h1.len,h2.len];exact hnm)
  rw[hb]
  have h3:((n:Int) == (m:Int))=false:=beq_eq_false_iff_ne.2 (by omega)
  have h4:((n:Int) != (m:Int))=true:=by rw[bne,h3];rfl
  clear hb h1 h2
  go_enter Tryz.func160,Tryz.ntmps160
  go_wp2_with fail
  go_ret
  exact⟨rfl,0,rfl⟩
set_option maxHeartbeats 400000 in
theorem nsame_any (A1 A2:Option Addr) (n m c1 c2:Nat) (l1 l2:List Nd) (w:World) (h1:RdN w w.heap.size A1 n l1) (h2:RdN w w.heap.size A2 m l2) (hn:n≤1048576) :
  Calls Tryz.prog 148 #[.slice A1 n c1,.slice A2 m c2] w (Qui (.bool (sameN l1 l2)) w):=by
 have H:=hid (eqn_any A1 A2 n m c1 c2 l1 l2 w h1 h2 hn)
 clear h1 h2
 generalize sameN l1 l2=b at H ⊢
 go_enter Tryz.func148,Tryz.ntmps148
 go_wp2_with fail
 refine H.out.mono ?_
 rintro e w1 ⟨rfl,q,rfl⟩
 go_wp2_with fail
 go_ret
 exact⟨rfl,q,rfl⟩
set_option maxRecDepth 100000 in
set_option maxHeartbeats 1600000 in
theorem eqr_any (A1 A2:Option Addr) (n m c1 c2:Nat) (l1 l2:List Rn) (w:World) (h1:RdR w w.heap.size A1 n l1) (h2:RdR w w.heap.size A2 m l2) (hn:n≤1048576) :
  Calls Tryz.prog 133 #[.slice A1 n c1,.slice A2 m c2] w (Qui (.bool (sameR l1 l2)) w):=by
 by_cases hnm:n=m
 ·subst hnm
  generalize hb:sameR l1 l2=b
  have HB:=hid hb
  clear hb
  go_enter Tryz.func133,Tryz.ntmps133
  go_wp2_with fail
  go_loopw [5,13] (fun _ s wr=>∃ i q:Nat,i≤n∧s=.int .i64 i∧sameR (l1.drop i) (l2.drop i)=b∧wr=w.drewN q) (fun _ s _=>n - (intOf s).toNat)
  case atStart=>exact⟨0,0,by omega,rfl,by simpa using HB.out,rfl⟩
  case round =>
   obtain⟨i,q,hi,rfl,hs,rfl⟩:=hrel
   have HS:=hid hs
   clear hs
   by_cases hlt:i < n
   ·obtain⟨ad,x,rfl,_,hx,c0,c1'⟩:=h1.at_ hlt
    obtain⟨ad2,y,rfl,_,hy,d0,d1⟩:=h2.at_ hlt
    have e1:=drop_rn hx
    have e2:=drop_rn hy
    have hst:=HS.out
    rw[e1,e2] at hst
    simp only[sameR] at hst
    have HST:=hid hst
    have hne:=fun W=>rn_neqs x y W
    obtain⟨xp,xn⟩:=x
    obtain⟨yp,yn⟩:=y
    dsimp only at c0 c1' d0 d1 hne
    clear hx hy e1 e2 hst HS
    generalize hE:rnEq ⟨xp,xn⟩ ⟨yp,yn⟩=E at HST hne
    clear hE
    cases E with
    | true =>
     have hne:∀ W,(binOp .neq 75 (rv xp (xn:Int)) (rv yp (yn:Int))).run Tryz.prog W=.ok (.bool false) W:=hne
     go_wp2_with fail
     go_quiet (fail)
     go_wp2_with fail
     go_roundw
     case rel=>exact⟨i+1,q+nq,by omega,by go_num,by simpa using HST.out,rfl⟩
     case measure=>simp[intOf];omega
    | false =>
     have hne:∀ W,(binOp .neq 75 (rv xp (xn:Int)) (rv yp (yn:Int))).run Tryz.prog W=.ok (.bool true) W:=hne
     go_wp2_with fail
     go_quiet (fail)
     go_wp2_with fail
     go_ret
     exact⟨by have:=HST.out;simp at this;rw[← this];rfl,q+nq,by rw[World.drewN_drewN]⟩
   ·have hge:n≤i:=by omega
    have e1:l1.drop i=[]:=List.drop_eq_nil_of_le (by rw[h1.len];exact hge)
    have e2:l2.drop i=[]:=List.drop_eq_nil_of_le (by rw[h2.len];exact hge)
    have hst:=HS.out
    rw[e1,e2] at hst
    have HST:=hid hst
    clear hst HS e1 e2
    go_wp2_with fail
    go_ret
    exact⟨by rw[← HST.out];rfl,q,rfl⟩
 ·have hb:=sameR_len (a:=l1) (b:=l2) (by rw[h1.len,h2.len];exact hnm)
  rw[hb]
  have h3:((n:Int) == (m:Int))=false:=beq_eq_false_iff_ne.2 (by omega)
  have h4:((n:Int) != (m:Int))=true:=by rw[bne,h3];rfl
  clear hb h1 h2
  go_enter Tryz.func133,Tryz.ntmps133
  go_wp2_with fail
  go_ret
  exact⟨rfl,0,rfl⟩
set_option maxHeartbeats 400000 in
theorem rsame_any (A1 A2:Option Addr) (n m c1 c2:Nat) (l1 l2:List Rn) (w:World) (h1:RdR w w.heap.size A1 n l1) (h2:RdR w w.heap.size A2 m l2) (hn:n≤1048576) :
  Calls Tryz.prog 94 #[.slice A1 n c1,.slice A2 m c2] w (Qui (.bool (sameR l1 l2)) w):=by
 have H:=hid (eqr_any A1 A2 n m c1 c2 l1 l2 w h1 h2 hn)
 clear h1 h2
 generalize sameR l1 l2=b at H ⊢
 go_enter Tryz.func94,Tryz.ntmps94
 go_wp2_with fail
 refine H.out.mono ?_
 rintro e w1 ⟨rfl,q,rfl⟩
 go_wp2_with fail
 go_ret
 exact⟨rfl,q,rfl⟩
set_option maxRecDepth 100000 in
set_option maxHeartbeats 1600000 in
theorem xsame_any (A1 A2:Option Addr) (n m c1 c2:Nat) (l1 l2:List Rn) (w:World) (h1:RdR w w.heap.size A1 n l1) (h2:RdR w w.heap.size A2 m l2) (hn:n≤1048576) :
  Calls Tryz.prog 28 #[.slice A1 n c1,.slice A2 m c2] w (Qui (.bool (sameR l1 l2)) w):=by
 by_cases hnm:n=m
 ·subst hnm
  generalize hb:sameR l1 l2=b
  have HB:=hid hb
  clear hb
  go_enter Tryz.func28,Tryz.ntmps28
  go_wp2_with fail
  go_loopw [5,13] (fun _ s wr=>∃ i q:Nat,i≤n∧s=.int .i64 i∧sameR (l1.drop i) (l2.drop i)=b∧wr=w.drewN q) (fun _ s _=>n - (intOf s).toNat)
  case atStart=>exact⟨0,0,by omega,rfl,by simpa using HB.out,rfl⟩
  case round =>
   obtain⟨i,q,hi,rfl,hs,rfl⟩:=hrel
   have HS:=hid hs
   clear hs
   by_cases hlt:i < n
   ·obtain⟨ad,x,rfl,_,hx,c0,c1'⟩:=h1.at_ hlt
    obtain⟨ad2,y,rfl,_,hy,d0,d1⟩:=h2.at_ hlt
    have e1:=drop_rn hx
    have e2:=drop_rn hy
    have hst:=HS.out
    rw[e1,e2] at hst
    simp only[sameR] at hst
    have HST:=hid hst
    have hne:=fun W=>rn_neqs x y W
    obtain⟨xp,xn⟩:=x
    obtain⟨yp,yn⟩:=y
    dsimp only at c0 c1' d0 d1 hne
    clear hx hy e1 e2 hst HS
    generalize hE:rnEq ⟨xp,xn⟩ ⟨yp,yn⟩=E at HST hne
    clear hE
    cases E with
    | true =>
     have hne:∀ W,(binOp .neq 75 (rv xp (xn:Int)) (rv yp (yn:Int))).run Tryz.prog W=.ok (.bool false) W:=hne
     go_wp2_with fail
     go_quiet (fail)
     go_wp2_with fail
     go_roundw
     case rel=>exact⟨i+1,q+nq,by omega,by go_num,by simpa using HST.out,rfl⟩
     case measure=>simp[intOf];omega
    | false =>
     have hne:∀ W,(binOp .neq 75 (rv xp (xn:Int)) (rv yp (yn:Int))).run Tryz.prog W=.ok (.bool true) W:=hne
     go_wp2_with fail
     go_quiet (fail)
     go_wp2_with fail
     go_ret
     exact⟨by have:=HST.out;simp at this;rw[← this];rfl,q+nq,by rw[World.drewN_drewN]⟩
   ·have hge:n≤i:=by omega
    have e1:l1.drop i=[]:=List.drop_eq_nil_of_le (by rw[h1.len];exact hge)
    have e2:l2.drop i=[]:=List.drop_eq_nil_of_le (by rw[h2.len];exact hge)
    have hst:=HS.out
    rw[e1,e2] at hst
    have HST:=hid hst
    clear hst HS e1 e2
    go_wp2_with fail
    go_ret
    exact⟨by rw[← HST.out];rfl,q,rfl⟩
 ·have hb:=sameR_len (a:=l1) (b:=l2) (by rw[h1.len,h2.len];exact hnm)
  rw[hb]
  have h3:((n:Int) == (m:Int))=false:=beq_eq_false_iff_ne.2 (by omega)
  have h4:((n:Int) != (m:Int))=true:=by rw[bne,h3];rfl
  clear hb h1 h2
  go_enter Tryz.func28,Tryz.ntmps28
  go_wp2_with fail
  go_ret
  exact⟨rfl,0,rfl⟩
end Go.Proofs.YtfddpnhaejkacaaGreat
namespace Go.Proofs.YtfddpnhaejkacaaGreat
namespace Tab
def War (m:Nat→Nat→Bool):Nat→Nat→Nat→Bool
 | 0,a,b=>m a b
 | k+1,a,b=>War m k a b || (War m k a k && War m k k b)
def Shut (n:Nat) (M:Nat→Nat→Bool):Prop:=∀ a b c,a < n→b < n→c < n→M a c=true→M c b=true→M a b=true
structure Pt where
 sched:Bool
 stop:Bool
structure Ch where
 from_:Int
 to_:Int
 queue:Bool
def inP (n:Nat) (p:Int):Bool:=decide (0≤p) && decide (p < n)
def schedOf (P:List Pt) (a:Nat):Bool:=(P[a]?.map (·.sched)).getD false
def stopOf (P:List Pt) (a:Nat):Bool:=(P[a]?.map (·.stop)).getD false
def joins (n:Nat) (x:Ch) (a b:Nat):Bool:=inP n x.from_ && inP n x.to_ && decide (x.from_=a) && decide (x.to_=b)
def depF (P:List Pt) (C:List Ch) (a b:Nat):Bool:=decide (a=b) || (schedOf P a && schedOf P b) || C.any fun x=>joins P.length x a b || joins P.length x b a
def swayF (P:List Pt) (C:List Ch) (a b:Nat):Bool:=decide (a=b) || schedOf P a || stopOf P a || C.any fun x=>joins P.length x a b || (x.queue && joins P.length x b a)
theorem depF_sym (P:List Pt) (C:List Ch) (a b:Nat):depF P C a b=depF P C b a:=by
 unfold depF
 congr 1
 ·congr 1
  ·exact decide_eq_decide.2 eq_comm
  ·exact Bool.and_comm _ _
 ·congr 1
  funext x
  exact Bool.or_comm _ _
theorem depF_self (P:List Pt) (C:List Ch) (a:Nat):depF P C a a=true:=by simp[depF]
def reachL (P:List Pt) (C:List Ch) (p:Nat):List Nat:=(List.range P.length).filter fun a=>War (swayF P C) P.length a p
end Tab
namespace Tab
inductive Rch (S:Nat→List Nat) (F:List Nat):Nat→Prop
 | base {a:Nat}:a∈F→Rch S F a
 | step {a b:Nat}:Rch S F b→a∈S b→Rch S F a
theorem Rch.from {S:Nat→List Nat} {F G:List Nat} (h:∀ a∈F,Rch S G a) {a:Nat} (ha:Rch S F a):Rch S G a:=by
 induction ha with
 | base h1=>exact h _ h1
 | step _ h2 ih=>exact .step ih h2
def put1 {α:Type} (f:Nat→α) (i:Nat) (v:α):Nat→α:=fun j=>if j=i then v else f j
theorem put1_same {α:Type} (f:Nat→α) (i:Nat) (v:α):put1 f i v i=v:=if_pos rfl
theorem put1_other {α:Type} {f:Nat→α} {i j:Nat} {v:α} (h:j≠i):put1 f i v j=f j:=if_neg h
def un:Nat→(Nat→Bool)→Nat
 | 0,_=>0
 | n+1,M=>un n M+if M n=true then 0 else 1
theorem un_congr {n:Nat} {M N:Nat→Bool} (h:∀ j,j < n→M j=N j):un n M=un n N:=by
 induction n with
 | zero=>rfl
 | succ n ih=>simp only[un];rw[ih fun j hj=>h j (by omega),h n (by omega)]
structure Cov (n:Nat) (S:Nat→List Nat) (F:List Nat) (M:Nat→Bool) (T:List (List Nat)):Prop where
 first:∀ x∈F,M x=true∨∃ L∈T,x∈L
 next:∀ b,b < n→M b=true→∀ y∈S b,M y=true∨∃ L∈T,y∈L
 snd:∀ a,M a=true→Rch S F a
 todo:∀ L∈T,∀ x∈L,x < n∧Rch S F x
section
variable {n:Nat} {S:Nat→List Nat} {F:List Nat} {M:Nat→Bool} {T:List (List Nat)}
theorem Cov.start (hF:∀ x∈F,x < n):Cov n S F (fun _=>false) [F] :=
 ⟨fun x hx=>.inr ⟨F,by simp,hx⟩,fun b _ h=>by simp at h,fun a h=>by simp at h,fun L hL x hx=>by simp at hL;subst hL;exact⟨hF x hx,.base hx⟩⟩
theorem Cov.pop {L:List Nat} (h:Cov n S F M (T++[L])):Cov n S F M (L::T):=by
 have e:∀ K:List Nat,K∈T++[L]↔K∈L::T:=fun K=>by simp[or_comm]
 refine⟨fun x hx=>(h.first x hx).imp id fun⟨K,hK,h2⟩=>⟨K,(e K).1 hK,h2⟩,fun b hb hm y hy=>(h.next b hb hm y hy).imp id fun⟨K,hK,h2⟩=>⟨K,(e K).1 hK,h2⟩,h.snd,fun K hK=>h.todo K ((e K).2 hK)⟩
theorem Cov.drop (h:Cov n S F M ([]::T)):Cov n S F M T:=by
 refine⟨fun x hx=>(h.first x hx).imp id ?_,fun b hb hm y hy=>(h.next b hb hm y hy).imp id ?_,h.snd,fun K hK=>h.todo K (by simp[hK])⟩
 all_goals
  rintro ⟨K,hK,h2⟩
  rcases List.mem_cons.1 hK with e | hK
  ·subst e;cases h2
  ·exact⟨K,hK,h2⟩
theorem Cov.skip {x:Nat} {L:List Nat} (h:Cov n S F M ((x::L)::T)) (hx:M x=true):Cov n S F M (L::T):=by
 have key:∀ y,(M y=true∨∃ K∈(x::L)::T,y∈K)→(M y=true∨∃ K∈L::T,y∈K):=by
  rintro y (h1 | ⟨K,hK,h2⟩)
  ·exact .inl h1
  ·rcases List.mem_cons.1 hK with e | hK
   ·subst e
    rcases List.mem_cons.1 h2 with e | h2
    ·subst e;exact .inl hx
    ·exact .inr ⟨L,by simp,h2⟩
   ·exact .inr ⟨K,by simp[hK],h2⟩
 refine⟨fun y hy=>key y (h.first y hy),fun b hb hm y hy=>key y (h.next b hb hm y hy),h.snd,fun K hK y hy=>?_⟩
 rcases List.mem_cons.1 hK with e | hK
 ·subst e;exact h.todo _ List.mem_cons_self y (List.mem_cons_of_mem _ hy)
 ·exact h.todo K (by simp[hK]) y hy
theorem Cov.done (h:Cov n S F M []) (hF:∀ x∈F,x < n) (hS:∀ b,b < n→∀ y∈S b,y < n) (a:Nat):M a=true↔Rch S F a:=by
 refine⟨h.snd a,fun ha=>?_⟩
 have key:M a=true∧a < n:=by
  induction ha with
  | base h1 =>
   rcases h.first _ h1 with h2 | ⟨K,hK,_⟩
   ·exact⟨h2,hF _ h1⟩
   ·cases hK
  | step _ h2 ih =>
   rcases h.next _ ih.2 ih.1 _ h2 with h3 | ⟨K,hK,_⟩
   ·exact⟨h3,hS _ ih.2 _ h2⟩
   ·cases hK
 exact key.1
end
def plcs (n:Nat) (r:Nat→Bool):List Nat:=(List.range n).filter r
def wayOf (n:Nat) (x:Ch):List (Nat×Nat):=if inP n x.from_ && inP n x.to_ then (x.from_.toNat,x.to_.toNat)::(if x.queue then [(x.to_.toNat,x.from_.toNat)] else []) else []
def wayL (n:Nat) (C:List Ch):List (Nat×Nat):=C.flatMap (wayOf n)
theorem inP_iff {n:Nat} {p:Int}:inP n p=true↔0≤p∧p < n:=by simp[inP]
theorem joins_iff {n:Nat} {x:Ch} {a b:Nat}:joins n x a b=true↔(inP n x.from_=true∧inP n x.to_=true)∧x.from_=a∧x.to_=b:=by
 simp only[joins,Bool.and_eq_true,decide_eq_true_eq,and_assoc]
theorem mem_wayOf {n:Nat} {x:Ch} {a b:Nat}:(a,b)∈wayOf n x↔(joins n x a b || (x.queue && joins n x b a))=true:=by
 rw[Bool.or_eq_true,Bool.and_eq_true,joins_iff,joins_iff]
 unfold wayOf
 by_cases h1:inP n x.from_=true
 ·by_cases h2:inP n x.to_=true
  ·have k1:=inP_iff.1 h1
   have k2:=inP_iff.1 h2
   rw[h1,h2]
   simp only[Bool.and_self,if_true,List.mem_cons,Prod.mk.injEq,true_and]
   cases x.queue with
   | true =>
    simp only[if_true,List.mem_singleton,Prod.mk.injEq,true_and]
    omega
   | false =>
    simp only[Bool.false_eq_true,if_false,List.not_mem_nil,or_false,false_and]
    omega
  ·simp only[Bool.not_eq_true] at h2
   rw[h2]
   simp
 ·simp only[Bool.not_eq_true] at h1
  rw[h1]
  simp
theorem mem_wayL {n:Nat} {C:List Ch} {a b:Nat}:(a,b)∈wayL n C↔(C.any fun x=>joins n x a b || (x.queue && joins n x b a))=true:=by
 unfold wayL
 rw[List.mem_flatMap,List.any_eq_true]
 exact⟨fun⟨x,h1,h2⟩=>⟨x,h1,mem_wayOf.1 h2⟩,fun⟨x,h1,h2⟩=>⟨x,h1,mem_wayOf.2 h2⟩⟩
theorem wayL_lt {n:Nat} {C:List Ch} {a b:Nat} (h:(a,b)∈wayL n C):a < n∧b < n:=by
 rw[mem_wayL,List.any_eq_true] at h
 obtain⟨x,_,h⟩:=h
 rw[Bool.or_eq_true,Bool.and_eq_true,joins_iff,joins_iff,inP_iff,inP_iff] at h
 omega
theorem depF_iff {P:List Pt} {C:List Ch} {a b:Nat}:depF P C a b=true↔a=b∨(schedOf P a=true∧schedOf P b=true)∨(a,b)∈wayL P.length C∨(b,a)∈wayL P.length C:=by
 unfold depF
 rw[mem_wayL,mem_wayL]
 simp only[Bool.or_eq_true,Bool.and_eq_true,decide_eq_true_eq,List.any_eq_true,or_assoc]
 constructor
 ·rintro (h | h | ⟨x,hx,h | h⟩)
  ·exact .inl h
  ·exact .inr (.inl h)
  ·exact .inr (.inr (.inl ⟨x,hx,.inl h⟩))
  ·exact .inr (.inr (.inr ⟨x,hx,.inl h⟩))
 ·rintro (h | h | ⟨x,hx,h | h⟩ | ⟨x,hx,h | h⟩)
  ·exact .inl h
  ·exact .inr (.inl h)
  ·exact .inr (.inr ⟨x,hx,.inl h⟩)
  ·exact .inr (.inr ⟨x,hx,.inr h.2⟩)
  ·exact .inr (.inr ⟨x,hx,.inr h⟩)
  ·exact .inr (.inr ⟨x,hx,.inl h.2⟩)
def rulL (P:List Pt):List Nat:=plcs P.length fun a=>schedOf P a || stopOf P a
def backL (W:List (Nat×Nat)) (x:Nat):List Nat:=(W.filter fun y=>decide (y.2=x)).map (·.1)
end Tab
end Go.Proofs.YtfddpnhaejkacaaGreat
namespace Go.Proofs.YtfddpnhaejkacaaGreat
open Go.RowKit Tab
open Lib (hid)
theorem elB:Elt 95 4 1 1 (.bool false):=⟨Tryz.underlying95,by kernel_rfl,rfl,by omega⟩
theorem elBB:Elt 55 95 1 24 (.slice none 0 0):=⟨Tryz.underlying55,by kernel_rfl,rfl,by omega⟩
theorem elW:Elt 158 161 2 16 (.agg #[.int .i64 0,.int .i64 0]):=⟨Tryz.underlying158,by kernel_rfl,rfl,by omega⟩
structure Vec (w:World) (g n:Nat) (f:Nat→Value):Prop where
 cell:∀ j,j < n→w.cell? ⟨g,j,none⟩=some (f j)
 thaw:∀ j,w.frozen? ⟨g,j,none⟩=false
 lt:g < w.heap.size
section
variable {w w':World} {g n B:Nat} {f f':Nat→Value}
theorem Vec.keep (h:Vec w g n f) (hk:w'.heap[g]? = w.heap[g]?) (hs:w.heap.size≤w'.heap.size):Vec w' g n f :=
 ⟨fun j hj=>(World.cell?_of_block hk).trans (h.cell j hj),fun j=>(World.frozen?_of_block hk).trans (h.thaw j),Nat.lt_of_lt_of_le h.lt hs⟩
theorem Vec.below (h:Vec w g n f) (hb:Below B w w') (hg:g < B):Vec w' g n f:=h.keep (hb.block g hg) hb.size
theorem Vec.on (h:Vec w g n f) (hb:Below w.heap.size w w'):Vec w' g n f:=h.below hb h.lt
theorem Vec.congr (h:Vec w g n f) (e:∀ j,j < n→f j=f' j):Vec w g n f':=⟨fun j hj=>by rw[← e j hj];exact h.cell j hj,h.thaw,h.lt⟩
theorem Vec.set (h:Vec w g n f) (i:Nat) (v:Value):Vec (w.setCell ⟨g,i,none⟩ v) g n (put1 f i v):=by
 refine⟨fun j hj=>?_,fun j=>by simpa using h.thaw j,by simpa using h.lt⟩
 by_cases e:j=i
 ·subst e
  rw[put1_same]
  exact World.cell?_setCell_same _ _ _ (h.cell j hj)
 ·rw[put1_other e,World.cell?_setCell_other _ _ _ _ (by intro e2;injection e2 with _ e3;omega)]
  exact h.cell j hj
theorem Vec.other (h:Vec w g n f) (p:Addr) (v:Value) (hp:g≠p.block):Vec (w.setCell p v) g n f :=
 h.keep (Below.heap_setCell w p v g hp) (by simp)
theorem Vec.drewN (h:Vec w g n f) (q:Nat):Vec (w.drewN q) g n f:=⟨h.cell,h.thaw,h.lt⟩
theorem Vec.lit (w:World) (C:Array Value) (t:TypeId) (n:Nat) (f:Nat→Value) (h:∀ j,j < n→C[j]? = some (f j)):Vec (w.alloc (.cells C t)) w.heap.size n f :=
 ⟨fun j hj=>(World.cell?_alloc_mark _ _ _ _ _).trans (h j hj),fun j=>by simp,by simp⟩
theorem Vec.rdc (h:Vec w g n f):RdC w w.heap.size (some ⟨g,0,none⟩) n f:=fun _=>⟨_,rfl,h.lt,fun j hj=>by
 have e:(⟨g,0,none⟩:Addr).add j=⟨g,j,none⟩:=by unfold Addr.add;split <;> simp_all
 rw[e];exact h.cell j hj⟩
end
theorem made_get (z:Value) (n j:Nat) (h:j < n):(madeCells #[z] n)[j]? = some z:=by
 rw[← Array.getElem?_toList,toList_madeCells_one]
 simp[h]
theorem run_makeB (m:Nat) (hm:m≤1048576) (W:World):(Instr.makeSlice 95 (.int .i64 (m:Int)) (.int .i64 (m:Int))).run Tryz.prog W=.ok (.slice (some ⟨W.heap.size,0,none⟩) m m) (W.alloc (.cells (madeCells #[.bool false] m) 4)):=by
 obtain⟨i,hi,hz,hs,hby⟩:=info_parts elB.hi
 have hr:=run_make (P:=Tryz.prog) W 95 4 i _ elB.ht hi hz .i64 .i64 m m (by omega) (by omega) (by rw[hby];omega) (by omega)
 rw[hs] at hr
 simp only[Int.toNat_natCast,Nat.mul_one] at hr
 exact hr
theorem run_makeBB (m:Nat) (hm:m≤1048576) (W:World):(Instr.makeSlice 55 (.int .i64 (m:Int)) (.int .i64 (m:Int))).run Tryz.prog W=.ok (.slice (some ⟨W.heap.size,0,none⟩) m m) (W.alloc (.cells (madeCells #[.slice none 0 0] m) 95)):=by
 obtain⟨i,hi,hz,hs,hby⟩:=info_parts elBB.hi
 have hr:=run_make (P:=Tryz.prog) W 55 95 i _ elBB.ht hi hz .i64 .i64 m m (by omega) (by omega) (by rw[hby];omega) (by omega)
 rw[hs] at hr
 simp only[Int.toNat_natCast,Nat.mul_one] at hr
 exact hr
structure Mat (w:World) (B g n k:Nat) (G:Nat→Nat) (m:Nat→Nat→Bool):Prop where
 outer:∃ f,Vec w g n f∧∀ i,i < k→f i=.slice (some ⟨G i,0,none⟩) n n
 rows:∀ i,i < k→Vec w (G i) n fun j=>.bool (m i j)
 low:B≤g
 ge:∀ i,i < k→B≤G i
 ne:∀ i,i < k→G i≠g
 inj:∀ i j,i < k→j < k→G i=G j→i=j
def put2 (m:Nat→Nat→Bool) (i j:Nat) (v:Bool):Nat→Nat→Bool:=fun a b=>if a=i∧b=j then v else m a b
section
variable {w w':World} {g n k B:Nat} {G:Nat→Nat} {m m':Nat→Nat→Bool}
theorem Mat.on (h:Mat w B g n k G m) (hb:Below w.heap.size w w'):Mat w' B g n k G m:=by
 obtain⟨f,h1,h2⟩:=h.outer
 exact⟨⟨f,h1.on hb,h2⟩,fun i hi=>(h.rows i hi).on hb,h.low,h.ge,h.ne,h.inj⟩
theorem Mat.drewN (h:Mat w B g n k G m) (q:Nat):Mat (w.drewN q) B g n k G m:=h.on (by
 exact⟨rfl,rfl,rfl,Nat.le_refl _,fun _ _=>rfl⟩)
theorem Mat.congr (h:Mat w B g n k G m) (e:∀ i j,i < k→j < n→m i j=m' i j):Mat w B g n k G m' :=
 ⟨h.outer,fun i hi=>(h.rows i hi).congr fun j hj=>by rw[e i j hi hj],h.low,h.ge,h.ne,h.inj⟩
theorem Mat.start (w:World) (B n:Nat) (hB:B≤w.heap.size) (t:TypeId) (m:Nat→Nat→Bool) (G:Nat→Nat):Mat (w.alloc (.cells (madeCells #[.slice none 0 0] n) t)) B w.heap.size n 0 G m :=
 ⟨⟨fun _=>.slice none 0 0,Vec.lit w _ t n _ fun j hj=>made_get _ n j hj,fun i hi=>by omega⟩,fun i hi=>by omega,hB,fun i hi=>by omega,fun i hi=>by omega,fun i j hi=>by omega⟩
theorem Mat.push (h:Mat w B g n k G m) {x:Nat} {b:Nat→Bool} (hx:Vec w x n fun j=>.bool (b j)) (hB:B≤x) (hg:x≠g) (hG:∀ i,i < k→G i≠x) (hk:k < n) :
  Mat (w.setCell ⟨g,k,none⟩ (.slice (some ⟨x,0,none⟩) n n)) B g n (k+1) (put1 G k x) (fun i j=>if i=k then b j else m i j):=by
 obtain⟨f,h1,h2⟩:=h.outer
 have hlt:∀ i,i < k+1→i≠k→i < k:=fun i _ _=>by omega
 refine⟨⟨_,h1.set k _,fun i hi=>?_⟩,fun i hi=>?_,h.low,fun i hi=>?_,fun i hi=>?_,fun i j hi hj e=>?_⟩
 ·by_cases e:i=k
  ·subst e;rw[put1_same,put1_same]
  ·rw[put1_other e,put1_other e];exact h2 i (hlt i hi e)
 ·by_cases e:i=k
  ·subst e
   simp only[put1_same,if_true]
   exact hx.other _ _ hg
  ·rw[put1_other e]
   simp only[e,if_false]
   exact(h.rows i (hlt i hi e)).other _ _ (h.ne i (hlt i hi e))
 ·by_cases e:i=k
  ·subst e;rw[put1_same];exact hB
  ·rw[put1_other e];exact h.ge i (hlt i hi e)
 ·by_cases e:i=k
  ·subst e;rw[put1_same];exact hg
  ·rw[put1_other e];exact h.ne i (hlt i hi e)
 ·by_cases e1:i=k
  ·by_cases e2:j=k
   ·omega
   ·subst e1
    rw[put1_same,put1_other e2] at e
    exact absurd e.symm (hG j (hlt j hj e2))
  ·by_cases e2:j=k
   ·subst e2
    rw[put1_same,put1_other e1] at e
    exact absurd e (hG i (hlt i hi e1))
   ·rw[put1_other e1,put1_other e2] at e
    exact h.inj i j (hlt i hi e1) (hlt j hj e2) e
theorem Mat.at_ (h:Mat w B g n k G m) {i j:Nat} (hi:i < k) (hk:k≤n) (hj:j < n):∃ x,G i=x∧x≠g∧B≤x∧g < w.heap.size∧x < w.heap.size∧w.cell? ⟨g,i,none⟩=some (.slice (some ⟨x,0,none⟩) n n)∧w.cell? ⟨x,j,none⟩=some (.bool (m i j))∧w.frozen? ⟨x,j,none⟩=false ∧
  ∀ v,Mat (w.setCell ⟨x,j,none⟩ (.bool v)) B g n k G (put2 m i j v)∧∀ V,Below B V w→Below B V (w.setCell ⟨x,j,none⟩ (.bool v)):=by
 obtain⟨f,h1,h2⟩:=h.outer
 refine⟨G i,rfl,h.ne i hi,h.ge i hi,h1.lt,(h.rows i hi).lt,(h1.cell i (by omega)).trans (by rw[h2 i hi]),(h.rows i hi).cell j hj,(h.rows i hi).thaw j,fun v=>⟨⟨⟨f,h1.other _ _ (h.ne i hi).symm,h2⟩,fun a ha=>?_,h.low,h.ge,h.ne,h.inj⟩,fun V hV=>hV.setCell (p:=⟨G i,j,none⟩) (h.ge i hi) _⟩⟩
 by_cases e:a=i
 ·subst e
  refine((h.rows a ha).set j (.bool v)).congr fun b _=>?_
  unfold put1 put2
  by_cases e2:b=j <;> simp[e2]
 ·refine((h.rows a ha).other _ _ fun e2=>e (h.inj a i ha hi e2)).congr fun b _=>?_
  unfold put2
  simp[e]
theorem Mat.row (h:Mat w B g n k G m) {i:Nat} (hi:i < k) (hk:k≤n):∃ x,G i=x∧x≠g∧w.cell? ⟨g,i,none⟩=some (.slice (some ⟨x,0,none⟩) n n)∧Vec w x n fun j=>.bool (m i j):=by
 obtain⟨f,h1,h2⟩:=h.outer
 exact⟨G i,rfl,h.ne i hi,(h1.cell i (by omega)).trans (by rw[h2 i hi]),h.rows i hi⟩
end
def RdM (w:World) (B:Nat) (A:Option Addr) (n:Nat) (l:Nat→Nat) (m:Nat→Nat→Bool):Prop :=
 ∃ R:Nat→Option Addr×Nat,RdC w B A n (fun i=>.slice (R i).1 (l i) (R i).2)∧∀ i,i < n→l i≤(R i).2∧RdC w B (R i).1 (l i) fun j=>.bool (m i j)
section
variable {w w':World} {n B B':Nat} {A:Option Addr} {l:Nat→Nat} {m m':Nat→Nat→Bool}
theorem RdM.below (h:RdM w B A n l m) (hb:Below B w w'):RdM w' B A n l m:=by
 obtain⟨R,h1,h2⟩:=h
 exact⟨R,h1.below hb,fun i hi=>⟨(h2 i hi).1,(h2 i hi).2.below hb⟩⟩
theorem RdM.more (h:RdM w B A n l m) (hB:B≤B'):RdM w B' A n l m:=by
 obtain⟨R,h1,h2⟩:=h
 exact⟨R,h1.more hB,fun i hi=>⟨(h2 i hi).1,(h2 i hi).2.more hB⟩⟩
theorem RdM.on (h:RdM w w.heap.size A n l m) (hb:Below w.heap.size w w'):RdM w' w'.heap.size A n l m:=(h.below hb).more hb.size
theorem RdM.drewN (h:RdM w B A n l m) (q:Nat):RdM (w.drewN q) B A n l m:=h
theorem RdC.congr {f f':Nat→Value} (h:RdC w B A n f) (e:∀ j,j < n→f j=f' j):RdC w B A n f':=fun hn=>by
 obtain⟨ad,h1,h2,h3⟩:=h hn
 exact⟨ad,h1,h2,fun j hj=>by rw[← e j hj];exact h3 j hj⟩
theorem RdM.congr (h:RdM w B A n l m) (e:∀ i j,i < n→j < l i→m i j=m' i j):RdM w B A n l m':=by
 obtain⟨R,h1,h2⟩:=h
 exact⟨R,h1,fun i hi=>⟨(h2 i hi).1,(h2 i hi).2.congr fun j hj=>by rw[e i j hi hj]⟩⟩
theorem RdM.at_ (h:RdM w B A n l m) {i:Nat} (hi:i < n):∃ ad R c,A=some ad∧ad.block < B∧w.cell? (ad.add i)=some (.slice R (l i) c)∧l i≤c∧RdC w B R (l i) fun j=>.bool (m i j):=by
 obtain⟨R,h1,h2⟩:=h
 obtain⟨ad,e,hb,hc⟩:=h1.at_ hi
 exact⟨ad,_,_,e,hb,hc,(h2 i hi).1,(h2 i hi).2⟩
theorem RdM.front (h:RdM w B A n l m) (k:Nat) (hk:k≤n):RdM w B A k l m:=by
 obtain⟨R,h1,h2⟩:=h
 refine⟨R,fun h0=>?_,fun i hi=>h2 i (by omega)⟩
 obtain⟨ad,e,hb,hc⟩:=h1 (by omega)
 exact⟨ad,e,hb,fun j hj=>hc j (by omega)⟩
theorem RdM.none (w:World) (B:Nat) (l:Nat→Nat) (m:Nat→Nat→Bool):RdM w B .none 0 l m:=⟨fun _=>(.none,0),fun h=>by omega,fun i hi=>by omega⟩
theorem Mat.rdm {g:Nat} {G:Nat→Nat} (h:Mat w B g n n G m):RdM w w.heap.size (some ⟨g,0,.none⟩) n (fun _=>n) m:=by
 obtain⟨f,h1,h2⟩:=h.outer
 exact⟨fun i=>(some ⟨G i,0,.none⟩,n),(h1.congr h2).rdc,fun i hi=>⟨Nat.le_refl _,(h.rows i hi).rdc⟩⟩
end
def MadM (n:Nat) (m:Nat→Nat→Bool) (w:World) (e:Ending) (w':World):Prop:=∃ A c,e=.returned (.slice A n c)∧n≤c∧RdM w' w'.heap.size A n (fun _=>n) m∧Below w.heap.size w w'
def MadG (n:Nat) (m:Nat→Nat→Bool) (w:World) (e:Ending) (w':World):Prop:=∃ g G,e=.returned (.slice (some ⟨g,0,none⟩) n n)∧Mat w' w.heap.size g n n G m∧Below w.heap.size w w'
theorem MadG.m {n:Nat} {m:Nat→Nat→Bool} {w w':World} {e:Ending} (h:MadG n m w e w'):MadM n m w e w':=by
 obtain⟨g,G,rfl,h1,h2⟩:=h
 exact⟨_,_,rfl,Nat.le_refl _,h1.rdm,h2⟩
def RdS (w:World) (B:Nat) (A:Option Addr) (n:Nat) (S:Nat→List Nat):Prop :=
 ∃ R:Nat→Option Addr×Nat,RdC w B A n (fun i=>.slice (R i).1 (S i).length (R i).2)∧∀ i,i < n→(S i).length≤(R i).2∧RdI w B (R i).1 (S i).length ((S i).map fun x:Nat=>(x:Int))
section
variable {w w':World} {n B B':Nat} {A:Option Addr} {S:Nat→List Nat}
theorem RdS.below (h:RdS w B A n S) (hb:Below B w w'):RdS w' B A n S:=by
 obtain⟨R,h1,h2⟩:=h
 exact⟨R,h1.below hb,fun i hi=>⟨(h2 i hi).1,(h2 i hi).2.below hb⟩⟩
theorem RdS.more (h:RdS w B A n S) (hB:B≤B'):RdS w B' A n S:=by
 obtain⟨R,h1,h2⟩:=h
 exact⟨R,h1.more hB,fun i hi=>⟨(h2 i hi).1,(h2 i hi).2.more hB⟩⟩
theorem RdS.on (h:RdS w w.heap.size A n S) (hb:Below w.heap.size w w'):RdS w' w'.heap.size A n S:=(h.below hb).more hb.size
theorem RdS.at_ (h:RdS w B A n S) {i:Nat} (hi:i < n):∃ ad R c,A=some ad∧ad.block < B∧w.cell? (ad.add i)=some (.slice R (S i).length c)∧(S i).length≤c∧RdI w B R (S i).length ((S i).map fun x:Nat=>(x:Int)):=by
 obtain⟨R,h1,h2⟩:=h
 obtain⟨ad,e,hb,hc⟩:=h1.at_ hi
 exact⟨ad,_,_,e,hb,hc,(h2 i hi).1,(h2 i hi).2⟩
end
end Go.Proofs.YtfddpnhaejkacaaGreat
