import Derived.Test.YtdkngfdnfekgfaaGreatLot34
import Derived.Deep.CutBlock
import Derived.OpenShut
set_option maxHeartbeats 4000000
set_option maxRecDepth 100000
set_option linter.unusedSimpArgs false
set_option linter.unusedVariables false
namespace Go.Proofs.YtdkngfdnfekgfaaGreat
open Go.RowKit Tab
theorem fewest_any(A:Option Addr)(n cap:Nat)(L:List Rn)(p:Int)(P:Nat)(w:World)(h:RdR w w.heap.size A n L)(hc:n≤cap)(hn:n≤1048576)(ht:ticks L≤1099511627776)(hP:1≤P)(hP2:P≤1099511627776):
  Calls Tryz.prog 128 #[.slice A n cap,.int .i64 p,.int .i64 (P:Int)] w (Ans (.int .i64 ((stpL p P ⟨P,P,0⟩ (wordsL L)).a:Nat)) w):=by
 obtain⟨R,hR⟩:∃ R,R=(stpL p P ⟨P,P,0⟩ (wordsL L)).a:=⟨_,rfl⟩;rw[← hR];have HR:=hid hR;have HOK:=hid fun X=>bok_all (p:=p) hP X _ (bok_start hP);have HL:=hid h.len;clear hR;have hPP:0 < P:=hP;go_enter Tryz.func128,Tryz.ntmps128;go_wp2_with fail;go_loopw [7,8,9,11,12,13,18] (fun a l m _ _ _ s wr=>∃ i sa sl sm:Nat,i≤n∧s=.int .i64 i∧a=.int .i64 sa∧l=.int .i64 sl∧m=.int .i64 sm∧stpL p P ⟨P,P,0⟩ (wordsL (L.take i))=⟨sa,sl,sm⟩∧Below w.heap.size w wr) (fun _ _ _ _ _ _ s _=>n - (intOf s).toNat)
 case atStart=>exact⟨0,P,P,0,by omega,rfl,rfl,rfl,rfl,rfl,Below.refl _ _⟩
 obtain⟨i,sa,sl,sm,hi,rfl,rfl,rfl,rfl,hst,hb⟩:=hrel;by_cases hlt:i < n
 ·obtain⟨ad,r,rfl,had,hr,c0,c1⟩:=(h.on hb).at_ hlt;have hmore:=wordsL_more hr;obtain⟨TG,hTG⟩:∃ TG,TG=stpL p P ⟨P,P,0⟩ (wordsL (L.take (i+1))):=⟨_,rfl⟩;have hgo:stpL p P ⟨sa,sl,sm⟩ (List.replicate r.n r.p)=TG:=by rw[hTG,hmore,stpL_append,hst]
  obtain⟨b1,b2,b3,b4⟩:=HOK.out (wordsL (L.take i));rw[hst] at b1 b2 b3 b4;dsimp only at b1 b2 b3 b4;have hrt:r.n≤ticks L:=mem_ticks (List.mem_of_getElem? hr);obtain⟨rp,rn⟩:=r;dsimp only at c0 c1 hgo hrt;have hbl:=bl1 wr (.cells #[.int .i64 rp,.int .i64 (rn:Int)] 114);have hb1:=hb.trans (hbl.mono hb.size);have m0:(wr.alloc (.cells #[.int .i64 rp,.int .i64 (rn:Int)] 114)).cell? ⟨wr.heap.size,0,none⟩=some (.int .i64 rp):=World.cell?_alloc_mark _ _ _ _ _;have m1:(wr.alloc (.cells #[.int .i64 rp,.int .i64 (rn:Int)] 114)).cell? ⟨wr.heap.size,1,none⟩=some (.int .i64 (rn:Int)):=World.cell?_alloc_mark _ _ _ _ _;have HTG:=hid hTG;have HGO:=hid hgo;clear hTG hgo hst hmore hr hbl;go_upto_region 5 with fail;generalize wr.alloc (.cells #[.int .i64 rp,.int .i64 (rn:Int)] 114)=W1 at m0 m1 hb1 ⊢;generalize wr.heap.size=gx at m0 m1 ⊢;have HB1:=hid hb1;clear hb1 hb c0 c1;go_wp2_with fail;clear m1;go_loopw [7,8,9,12,13] (fun a l m nn _ wr=>∃ k sa sl sm:Nat,nn=.int .i64 k∧a=.int .i64 sa∧l=.int .i64 sl∧m=.int .i64 sm∧stpL p P ⟨sa,sl,sm⟩ (List.replicate k rp)=TG∧sa≤P∧1≤sl∧sl≤P∧sm+sl≤P∧k≤rn∧wr=W1) (fun _ _ _ nn _ _=>(intOf nn).toNat)
  case atStart=>exact⟨rn,sa,sl,sm,rfl,rfl,rfl,rfl,HGO.out,b1,b2,b3,b4,Nat.le_refl _,rfl⟩
  clear HGO b1 b2 b3 b4;obtain⟨k,sa,sl,sm,rfl,rfl,rfl,rfl,hgo,b1,b2,b3,b4,hkr,hw⟩:=hrel;have hw':=hw.symm;clear hw;subst hw';by_cases hk0:k=0
  ·subst hk0;have hfin:TG=⟨sa,sl,sm⟩:=hgo.symm;have HFIN:=hid hfin
   clear hfin hgo;go_wp2_with fail;go_roundw
   case rel=>exact⟨i+1,sa,sl,sm,by omega,by go_num,rfl,rfl,rfl,by rw[← HTG.out,HFIN.out],HB1.out⟩
   simp[intOf];omega
  have hk1:0 < k:=by omega
  clear hk0;by_cases hks:k < sl
  ·obtain⟨l2,hl2⟩:∃ l2,l2=sl - k:=⟨_,rfl⟩;have hl0:0 < l2:=by omega
   have hmin:min (k:Int) (sl:Int)=(k:Int):=by omega
   have hmin2:(if (sl:Int) < (k:Int) then (sl:Int) else (k:Int))=(k:Int):=by rw[if_neg (by omega)]
   have hls:(sl:Int) - (k:Int)=(l2:Int):=by omega
   have hgo2:=(stp_part (p:=p) (x:=rp) (P:=P) (a:=sa) (m:=sm) hks).symm.trans hgo;rw[← hl2] at hgo2;have HL2:=hid hl2;clear hl2 hgo;by_cases hp:rp=p
   ·rw[if_pos hp] at hgo2;have hpb:(rp == p)=true:=beq_iff_eq.2 hp;have HGO2:=hid hgo2;clear hgo2 hp;go_wp2_with fail;go_roundw
    case rel=>exact⟨0,sa,l2,sm+k,by go_num,rfl,by go_num,by go_num,HGO2.out,b1,hl0,by have:=HL2.out;omega,by have:=HL2.out;omega,by omega,trivial⟩
    simp[intOf];omega
   rw[if_neg hp] at hgo2;have hpb:(rp == p)=false:=beq_eq_false_iff_ne.2 hp;have HGO2:=hid hgo2;clear hgo2 hp;go_wp2_with fail;go_roundw
   case rel=>exact⟨0,sa,l2,sm,by go_num,rfl,by go_num,by go_num,HGO2.out,b1,hl0,by have:=HL2.out;omega,by have:=HL2.out;omega,by omega,trivial⟩
   simp[intOf];omega
  obtain⟨k2,hk2⟩:∃ k2,k2=k - sl:=⟨_,rfl⟩;have hmin:min (k:Int) (sl:Int)=(sl:Int):=by omega
  have hmin2:(if sl < k then (sl:Int) else (k:Int))=(sl:Int):=by split <;> omega
  have hks2:(k:Int) - (sl:Int)=(k2:Int):=by omega
  have hgo2:=(stp_full (p:=p) (x:=rp) (P:=P) (a:=sa) (m:=sm) (show sl≤k by omega) b2).symm.trans hgo;rw[← hk2] at hgo2;have HK2:=hid hk2;clear hk2 hgo;by_cases hp:rp=p
  ·rw[if_pos hp] at hgo2;have hpb:(rp == p)=true:=beq_iff_eq.2 hp;have hmine:(sm:Int)+(sl:Int)=((sm+sl:Nat):Int):=by omega
   have hmn2:sm+sl≤P:=b4;clear hp;have hsmb:sm+sl≤P:=b4;obtain⟨mm,hmm⟩:∃ mm,mm=sm+sl:=⟨_,rfl⟩;rw[← hmm] at hgo2 hmine;have hmmP:mm≤P:=by omega
   have HMM:=hid hmm;clear hmm;have hmina:min (sa:Int) (mm:Int)=((min sa mm:Nat):Int):=by omega
   have hmina2:(if mm < sa then (mm:Int) else (sa:Int))=((min sa mm:Nat):Int):=by split <;> omega
   obtain⟨a2,ha2⟩:∃ a2,a2=min sa mm:=⟨_,rfl⟩;rw[← ha2] at hgo2 hmina hmina2;have ha2P:a2≤P:=by omega
   have HA2:=hid ha2;clear ha2;obtain⟨qq,hqq⟩:∃ qq,qq=k2 / P:=⟨_,rfl⟩;have hquo:(k2:Int) / (P:Int)=(qq:Int):=by rw[hqq,Int.natCast_ediv]
   have htq:(k2:Int).tdiv (P:Int)=(qq:Int):=by rw[Int.tdiv_eq_ediv_of_nonneg (Int.natCast_nonneg _)];exact hquo
   have hqb:qq≤1099511627776:=by
    have h1:k2 / P≤k2:=Nat.div_le_self _ _;have h2:=HK2.out;omega
   have hwq:IntKind.i64.wrap (qq:Int)=(qq:Int):=IntWalk.i64_in _ (by omega);by_cases hq:1 < k2 / P
   ·have hgo3:=(stp_mod (p:=p) (x:=rp) (P:=P) (a:=a2) (n:=k2) hP hq).symm.trans hgo2;obtain⟨rr,hrr⟩:∃ rr,rr=k2 % P:=⟨_,rfl⟩;rw[← hrr] at hgo3;have hq1:1 < qq:=by omega
    have hmod:(k2:Int) % (P:Int)=(rr:Int):=by rw[hrr,Int.natCast_emod]
    have htmod:(k2:Int).tmod (P:Int)=(rr:Int):=by rw[Int.tmod_eq_emod_of_nonneg (Int.natCast_nonneg _)];exact hmod
    have hrl:rr < P:=by rw[hrr];exact Nat.mod_lt _ hP
    have hdm:=Nat.div_add_mod k2 P;have hPk:P+rr≤k2:=by
     have:P*2≤P*(k2 / P):=Nat.mul_le_mul_left _ hq;omega
    have HGO3:=hid hgo3;have HPK:=hid hPk;clear hgo2 hgo3 hrr hdm hq hPk hqq;go_wp2_with fail;go_roundw
    case rel=>exact⟨P+rr,a2,P,0,by go_num,by go_num,rfl,rfl,HGO3.out,ha2P,hP,Nat.le_refl _,by omega,by have:=HPK.out;have:=HK2.out;omega,trivial⟩
    simp[intOf];have:=HPK.out;have:=HK2.out;omega
   have hq1:¬ 1 < qq:=by omega
   clear hqq;have HGO2:=hid hgo2;clear hgo2 hq;go_wp2_with fail;go_roundw
   case rel=>exact⟨k2,a2,P,0,by go_num,by go_num,rfl,rfl,HGO2.out,ha2P,hP,Nat.le_refl _,by omega,by have:=HK2.out;omega,trivial⟩
   simp[intOf];have:=HK2.out;omega
  rw[if_neg hp] at hgo2;have hpb:(rp == p)=false:=beq_eq_false_iff_ne.2 hp;obtain⟨mm,hmm⟩:∃ mm,mm=sm:=⟨_,rfl⟩;rw[Nat.add_zero,← hmm] at hgo2;subst hmm;have hmmP:mm≤P:=by omega
  clear hp;have hmina:min (sa:Int) (mm:Int)=((min sa mm:Nat):Int):=by omega
  have hmina2:(if mm < sa then (mm:Int) else (sa:Int))=((min sa mm:Nat):Int):=by split <;> omega
  obtain⟨a2,ha2⟩:∃ a2,a2=min sa mm:=⟨_,rfl⟩;rw[← ha2] at hgo2 hmina hmina2;have ha2P:a2≤P:=by omega
  have HA2:=hid ha2;clear ha2;obtain⟨qq,hqq⟩:∃ qq,qq=k2 / P:=⟨_,rfl⟩;have hquo:(k2:Int) / (P:Int)=(qq:Int):=by rw[hqq,Int.natCast_ediv]
  have htq:(k2:Int).tdiv (P:Int)=(qq:Int):=by rw[Int.tdiv_eq_ediv_of_nonneg (Int.natCast_nonneg _)];exact hquo
  have hqb:qq≤1099511627776:=by
   have h1:k2 / P≤k2:=Nat.div_le_self _ _;have h2:=HK2.out;omega
  have hwq:IntKind.i64.wrap (qq:Int)=(qq:Int):=IntWalk.i64_in _ (by omega);by_cases hq:1 < k2 / P
  ·have hgo3:=(stp_mod (p:=p) (x:=rp) (P:=P) (a:=a2) (n:=k2) hP hq).symm.trans hgo2;obtain⟨rr,hrr⟩:∃ rr,rr=k2 % P:=⟨_,rfl⟩;rw[← hrr] at hgo3;have hq1:1 < qq:=by omega
   have hmod:(k2:Int) % (P:Int)=(rr:Int):=by rw[hrr,Int.natCast_emod]
   have htmod:(k2:Int).tmod (P:Int)=(rr:Int):=by rw[Int.tmod_eq_emod_of_nonneg (Int.natCast_nonneg _)];exact hmod
   have hrl:rr < P:=by rw[hrr];exact Nat.mod_lt _ hP
   have hdm:=Nat.div_add_mod k2 P;have hPk:P+rr≤k2:=by
    have:P*2≤P*(k2 / P):=Nat.mul_le_mul_left _ hq;omega
   have HGO3:=hid hgo3;have HPK:=hid hPk;clear hgo2 hgo3 hrr hdm hq hPk hqq;go_wp2_with fail;go_roundw
   case rel=>exact⟨P+rr,a2,P,0,by go_num,by go_num,rfl,rfl,HGO3.out,ha2P,hP,Nat.le_refl _,by omega,by have:=HPK.out;have:=HK2.out;omega,trivial⟩
   simp[intOf];have:=HPK.out;have:=HK2.out;omega
  have hq1:¬ 1 < qq:=by omega
  clear hqq;have HGO2:=hid hgo2;clear hgo2 hq;go_wp2_with fail;go_roundw
  case rel=>exact⟨k2,a2,P,0,by go_num,by go_num,rfl,rfl,HGO2.out,ha2P,hP,Nat.le_refl _,by omega,by have:=HK2.out;omega,trivial⟩
  simp[intOf];have:=HK2.out;omega
 have hge:n≤i:=by omega
 have e:L.take i=L:=List.take_of_length_le (by rw[HL.out];exact hge);rw[e] at hst;have hRs:R=sa:=by rw[HR.out,hst]
 subst hRs;clear hst e HR;go_wp2_with fail;go_ret;exact Ans.mk rfl hb
theorem bbudget_any(A:Option Addr)(n cap:Nat)(L:List Rn)(p z:Int)(w:World)(h:RdR w w.heap.size A n L)(hc:n≤cap)(hn:n≤1048576)(ht:ticks L≤1099511627776)(hz:In64 z):
  Calls Tryz.prog 118 #[.slice A n cap,.int .i64 p,.int .i64 z] w (Ans (.int .i64 (budL (wordsL L) p z)) w):=by
 have HT:=hid (length_any A n cap L w h hc hn ht);obtain⟨R,hR⟩:∃ R,R=budL (wordsL L) p z:=⟨_,rfl⟩;rw[← hR];have hlen:=wordsL_len L;by_cases h0:ticks L=0
 ·have e:R=-1:=by
   rw[hR];unfold budL;rw[hlen];by_cases hz1:z < 1
   ·rw[if_pos hz1]
   rw[if_neg hz1,if_pos h0]
  subst e;rw[h0] at HT;clear hR hlen h0;go_enter Tryz.func118,Tryz.ntmps118;go_wp2_with fail;refine HT.out.mono ?_;rintro e w1⟨rfl,hb1⟩;go_wp2_with fail;go_ret;exact Ans.mk rfl hb1
 by_cases hz1:z < 1
 ·have e:R=-1:=by rw[hR];unfold budL;rw[if_pos hz1]
  subst e;have hzd:decide (z < 1)=true:=decide_eq_true hz1;generalize ticks L=T at HT ht h0;have htd:decide ((T:Int) < 1)=false:=decide_eq_false (by omega);have hT0:0 < T:=by omega
  clear hR hlen h0;go_enter Tryz.func118,Tryz.ntmps118;go_wp2_with fail;refine HT.out.mono ?_;rintro e w1⟨rfl,hb1⟩;go_wp2_with fail;go_ret;exact Ans.mk rfl hb1
 obtain⟨P,rfl⟩:∃ P:Nat,z=(P:Int):=⟨z.toNat,by omega⟩;have hP:1≤P:=by omega
 have hzd:decide ((P:Int) < 1)=false:=decide_eq_false hz1;have hzn:¬ P=0:=by omega
 by_cases hm:ticks L % P=0
 ·have hPT:P≤ticks L:=Nat.le_of_dvd (by omega) (Nat.dvd_of_mod_eq_zero hm);have e:R=((stpL p P ⟨P,P,0⟩ (wordsL L)).a:Int):=by
   rw[hR];unfold budL;rw[hlen,if_neg (by omega),if_neg h0,Int.toNat_natCast,if_neg (by omega),stp_all hP (by rw[hlen];omega) (by rw[hlen];exact hm),hlen]
  rw[e];have HF:=hid fun W (hb:Below w.heap.size w W)=>fewest_any A n cap L p P W (h.on hb) hc hn ht hP (by omega);generalize (stpL p P ⟨P,P,0⟩ (wordsL L)).a=v at HF ⊢;have hmi:((ticks L:Nat):Int).tmod (P:Int)=0:=by rw[Int.tmod_eq_emod_of_nonneg (Int.natCast_nonneg _),← Int.natCast_emod,hm];rfl
  have hmb:(((ticks L:Nat):Int).tmod (P:Int) != 0)=false:=by rw[hmi];rfl
  generalize ticks L=T at HT ht h0 hmi hmb;have htd:decide ((T:Int) < 1)=false:=decide_eq_false (by omega);have hT0:0 < T:=by omega
  clear hR hlen h0 e hm hPT;go_enter Tryz.func118,Tryz.ntmps118;go_wp2_with fail;refine HT.out.mono ?_;rintro e w1⟨rfl,hb1⟩;go_wp2_with fail;refine(HF.out w1 hb1).mono ?_;rintro e w2⟨rfl,hb2⟩;have HB:=hid (hb1.trans (hb2.mono hb1.size));clear hb1 hb2;go_wp2_with fail;go_ret;exact Ans.mk rfl HB.out
 have e:R=-1:=by
  rw[hR];unfold budL;rw[hlen,if_neg (by omega),if_neg h0,Int.toNat_natCast,if_pos hm]
 subst e;have hmi:¬ ((ticks L:Nat):Int).tmod (P:Int)=0:=by rw[Int.tmod_eq_emod_of_nonneg (Int.natCast_nonneg _),← Int.natCast_emod];omega
 have hmb:(((ticks L:Nat):Int).tmod (P:Int) != 0)=true:=bne_iff_ne.2 hmi;have hme:¬ ((ticks L:Nat):Int) % (P:Int)=0:=by rw[← Int.natCast_emod];omega
 have hmc:(((ticks L:Nat):Int) % (P:Int) != 0)=true:=bne_iff_ne.2 hme;generalize ticks L=T at HT ht h0 hmi hmb hme hmc;have htd:decide ((T:Int) < 1)=false:=decide_eq_false (by omega);have hT0:0 < T:=by omega
 clear hR hlen h0 hm;go_enter Tryz.func118,Tryz.ntmps118;go_wp2_with fail;refine HT.out.mono ?_;rintro e w1⟨rfl,hb1⟩;go_wp2_with fail;go_ret;exact Ans.mk rfl hb1
structure BoundW:Prop where
 late:∀(A:Option Addr) (n c:Nat) (L:List Rn) (p q:Int) (w:World),RdR w w.heap.size A n L→n≤c→n≤1048576→ticks L≤8192→Calls Tryz.prog 126 #[.slice A n c,.int .i64 p,.int .i64 q] w (Ans (.int .i64 (lateL (wordsL L) p q)) w)
 budget:∀(A:Option Addr) (n c:Nat) (L:List Rn) (p z:Int) (w:World),RdR w w.heap.size A n L→n≤c→n≤1048576→ticks L≤8192→In64 z→Calls Tryz.prog 118 #[.slice A n c,.int .i64 p,.int .i64 z] w (Ans (.int .i64 (budL (wordsL L) p z)) w)
 gaps:∀(A:Option Addr) (n c:Nat) (L:List Rn) (p:Int) (w:World),RdR w w.heap.size A n L→n≤c→n≤1048576→ticks L≤8192→Calls Tryz.prog 140 #[.slice A n c,.int .i64 p] w (Ans (.int .i64 (gapL (wordsL L) p)) w)
 holds:∀(A1 A2 A3 A4:Option Addr) (n1 n2 n3 n4 c1 c2 c3 c4:Nat) (P:List PtV) (C:List ChV) (L:List Rn) (w:World),RdB pcl w w.heap.size A1 n1 P→RdB cc w w.heap.size A2 n2 C→RdR w w.heap.size A4 n4 L →
  n1≤1048576→n2≤1048576→n4≤c4→n4≤1048576→ticks L≤8192→(∀ x∈P,In64 x.per)→Calls Tryz.prog 101 #[.agg #[.slice A1 n1 c1,.slice A2 n2 c2,.slice A3 n3 c3],.slice A4 n4 c4] w (Ans (.int .i64 (holdsF (wordsL L) P C)) w)
theorem lateL_ge(W:List Int)(p q:Int):-1≤lateL W p q:=by
 unfold lateL;split
 ·omega
 split <;> omega
theorem blt_any(A:Option Addr)(n c:Nat)(L:List Rn)(xf xt:Int)(xq:Bool)(xc xm xl:Int)(w:World)(h:RdR w w.heap.size A n L)(hc:n≤c)(hn:n≤1048576)(ht:ticks L≤1099511627776):
  Calls Tryz.prog 117 #[.slice A n c,.agg #[.int .i64 xf,.int .i64 xt,.bool xq,.int .i64 xc,.int .u32 xm,.int .i64 xl]] w (Ans (.bool (decide (lateL (wordsL L) xf xt < 0) || decide (xl < lateL (wordsL L) xf xt))) w):=by
 have hbx:=bl1 w (.cells #[.int .i64 xf,.int .i64 xt,.bool xq,.int .i64 xc,.int .u32 xm,.int .i64 xl] 63);have HLT:=hid (blate_any A n c L xf xt _ (h.on hbx) hc hn ht);have hge:=lateL_ge (wordsL L) xf xt;have HB1:=hid hbx;generalize lateL (wordsL L) xf xt=z at HLT hge ⊢;clear hbx h;go_enter Tryz.func117,Tryz.ntmps117;go_wp2_with fail;refine HLT.out.mono ?_;rintro e w5⟨rfl,hb5⟩;have e5:w5.cell? ⟨w.heap.size,5,none⟩=some (.int .i64 xl):=(hb5.cell (p:=⟨w.heap.size,5,none⟩) (by simp)).trans (World.cell?_alloc_mark _ _ _ _ _);have HB5:=hid (HB1.out.trans (hb5.mono HB1.out.size));generalize w.heap.size=gx at e5 ⊢;clear hb5 HLT HB1;by_cases t2:z=-1
 ·subst t2;go_wp2_with fail;go_ret;exact Ans.mk rfl HB5.out
 have u2:(z == -1)=false:=beq_eq_false_iff_ne.2 t2;have u4:decide (z < 0)=false:=decide_eq_false (by omega);have HU4:=hid u4;obtain⟨bb,hbb⟩:∃ bb,bb=decide (xl < z):=⟨_,rfl⟩;have HBB:=hid hbb;clear hbb;cases bb with
 | true =>
  have u3:decide (xl < z)=true:=HBB.out.symm;go_wp2_with fail;go_ret;exact Ans.mk (by rw[HU4.out,Bool.false_or,← HBB.out];rfl) HB5.out
 | false =>
  have u3:decide (xl < z)=false:=HBB.out.symm;go_wp2_with fail;go_ret;exact Ans.mk (by rw[HU4.out,Bool.false_or,← HBB.out];rfl) HB5.out
theorem bholds_any(A1 A2 A3 A4:Option Addr)(n1 n2 n3 n4 c1 c2 c3 c4:Nat)(P:List PtV)(C:List ChV)(L:List Rn)(w:World)(hP:RdB pcl w w.heap.size A1 n1 P)(hC:RdB cc w w.heap.size A2 n2 C)(hL:RdR w w.heap.size A4 n4 L)
  (q1:n1≤1048576) (q2:n2≤1048576) (q4:n4≤c4) (q5:n4≤1048576) (ht:ticks L≤1099511627776) (hz:∀ x∈P,In64 x.per) :
  Calls Tryz.prog 101 #[.agg #[.slice A1 n1 c1,.slice A2 n2 c2,.slice A3 n3 c3],.slice A4 n4 c4] w (Ans (.int .i64 (holdsF (wordsL L) P C)) w):=by
 have hb0:=bl1 w (.cells #[.slice A1 n1 c1,.slice A2 n2 c2,.slice A3 n3 c3] 26)
 have hP0:=hP.on hb0
 have hC0:=hC.on hb0
 have hL0:=hL.on hb0
 have m0:(w.alloc (.cells #[.slice A1 n1 c1,.slice A2 n2 c2,.slice A3 n3 c3] 26)).cell? ⟨w.heap.size,0,none⟩=some (.slice A1 n1 c1):=World.cell?_alloc_mark _ _ _ _ _
 have hgs:w.heap.size < (w.alloc (.cells #[.slice A1 n1 c1,.slice A2 n2 c2,.slice A3 n3 c3] 26)).heap.size:=by simp
 have HZ:=hid hz
 obtain⟨R,hR⟩:∃ R,R=holdsF (wordsL L) P C:=⟨_,rfl⟩
 rw[← hR]
 obtain⟨X,hX⟩:∃ X,X=wordsL L:=⟨_,rfl⟩
 rw[← hX] at hR
 have HR:=hid hR
 have HX:=hid hX
 have hPl:=hP.len
 have hCl:=hC.len
 have HPL:=hid hPl
 have HCL:=hid hCl
 clear hP hC hL hz hR hX hPl hCl
 go_enter Tryz.func101,Tryz.ntmps101
 go_wp2_with fail
 generalize w.alloc (.cells #[.slice A1 n1 c1,.slice A2 n2 c2,.slice A3 n3 c3] 26)=W at hb0 hP0 hC0 hL0 m0 hgs ⊢
 obtain⟨g,hg⟩:∃ g,g=w.heap.size:=⟨_,rfl⟩
 rw[← hg] at m0 hgs ⊢
 have HG:=hid hg
 have HM0:=hid m0
 clear hg m0
 go_loopw [6,12] (fun _ s wr=>∃ i:Nat,i≤n2∧s=.int .i64 i∧(C.take i).any (chLate X)=false∧Below W.heap.size W wr) (fun _ s _=>n2 - (intOf s).toNat)
 case atStart=>exact⟨0,by omega,rfl,rfl,Below.refl _ _⟩
 case round =>
  obtain⟨i,hi,rfl,hany,hb⟩:=hrel
  have HANY:=hid hany
  clear hany
  by_cases hlt:i < n2
  ·obtain⟨ad,x,rfl,had,hx,c0,ck⟩:=(hC0.on hb).at_ cc_len (by omega) hlt
   have d0:=c0 _ rfl
   have d1:=ck 1 _ (by omega) rfl
   have d2:=ck 2 _ (by omega) rfl
   have d3:=ck 3 _ (by omega) rfl
   have d4:=ck 4 _ (by omega) rfl
   have d5:=ck 5 _ (by omega) rfl
   have HMORE:=hid (any_more (chLate X) hx)
   have HMEM:=hid (any_mem (chLate X) hx)
   obtain⟨xf,xt,xq,xc,xm,xl⟩:=x
   dsimp only at d0 d1 d2 d3 d4 d5
   have hbx:=bl1 wr (.cells #[.int .i64 xf,.int .i64 xt,.bool xq,.int .i64 xc,.int .u32 xm,.int .i64 xl] 63)
   have hb1:=hb.trans (hbx.mono hb.size)
   have HLT:=hid (blt_any A4 n4 c4 L xf xt xq xc xm xl _ (hL0.on hb1) q4 q5 ht)
   have HB1:=hid hb1
   clear c0 ck hx hbx hb1
   rw[← HX.out] at HLT
   have hcl:chLate X ⟨xf,xt,xq,xc,xm,xl⟩=(decide (0 < xl) && (decide (lateL X xf xt < 0) || decide (xl < lateL X xf xt))):=rfl
   generalize (decide (lateL X xf xt < 0) || decide (xl < lateL X xf xt))=z at hcl HLT
   have HCL2:=hid hcl
   clear hcl
   by_cases t1:0 < xl
   ·have u1:decide (0 < xl)=true:=decide_eq_true t1
    go_wp2_with fail
    refine HLT.out.mono ?_
    rintro e w5⟨rfl,hb5⟩
    have HB5:=hid (HB1.out.trans (hb5.mono HB1.out.size))
    clear hb5 HLT HB1 d0 d1 d2 d3 d4 d5
    cases z with
    | true =>
     have hres:R=19:=by
      rw[HR.out]
      exact holdsF_late (HMEM.out (by rw[HCL2.out,u1];rfl))
     subst hres
     go_wp2_with fail
     go_ret
     exact Ans.mk rfl (hb0.trans (HB5.out.mono hb0.size))
    | false =>
     have HN:Hid ((C.take (i+1)).any (chLate X)=false):=hid (by rw[HMORE.out,HANY.out,HCL2.out,u1];rfl)
     go_wp2_with fail
     go_roundw
     case rel=>exact⟨i+1,by omega,by go_num,HN.out,HB5.out⟩
     case measure=>simp[intOf];omega
   ·have u1:decide (0 < xl)=false:=decide_eq_false t1
    have HN:Hid ((C.take (i+1)).any (chLate X)=false):=hid (by rw[HMORE.out,HANY.out,HCL2.out,u1];rfl)
    clear HLT
    go_wp2_with fail
    go_roundw
    case rel=>exact⟨i+1,by omega,by go_num,HN.out,HB1.out⟩
    case measure=>simp[intOf];omega
  ·have hge:n2≤i:=by omega
   have HALL:Hid (C.any (chLate X)=false):=hid (by
    have h:=HANY.out
    rw[List.take_of_length_le (by rw[HCL.out];exact hge)] at h
    exact h)
   clear HANY
   have m0:=(hb.cell (p:=⟨g,0,none⟩) hgs).trans HM0.out
   go_wp2_with fail
   go_loopw [7,8,28] (fun _ _ s wx=>∃ j:Nat,j≤n1∧s=.int .i64 j∧shortF X 0 (P.take j)=false∧Below W.heap.size W wx) (fun _ _ s _=>n1 - (intOf s).toNat)
   case atStart=>exact⟨0,by omega,rfl,rfl,hb⟩
   case round =>
    obtain⟨j,hj,rfl,hsh,hb⟩:=hrel
    have HSH:=hid hsh
    clear hsh
    by_cases hlt:j < n1
    ·obtain⟨ad,x,rfl,had,hx,c0,ck⟩:=(hP0.on hb).at_ pcl_len (by omega) hlt
     have d0:=c0 _ rfl
     have d1:=ck 1 _ (by omega) rfl
     have d2:=ck 2 _ (by omega) rfl
     have d3:=ck 3 _ (by omega) rfl
     have d4:=ck 4 _ (by omega) rfl
     have d5:=ck 5 _ (by omega) rfl
     have d6:=ck 6 _ (by omega) rfl
     have d7:=ck 7 _ (by omega) rfl
     have d8:=ck 8 _ (by omega) rfl
     have d9:=ck 9 _ (by omega) rfl
     have d10:=ck 10 _ (by omega) rfl
     have hzx:=HZ.out x (List.mem_of_getElem? hx)
     have HSM:=hid (short_more (W:=X) hx)
     have HSE:=hid (short_mem (W:=X) hx)
     obtain⟨nm,bu,pe,sc,st,pa,pn,pc,h0,h1,h2,h3,h4⟩:=x
     dsimp only at d0 d1 d2 d3 d4 d5 d6 d7 d8 d9 d10 hzx
     have hbx:=bl1 wr (.cells #[.string nm,.int .i64 bu,.int .i64 pe,.bool sc,.bool st,.slice pa pn pc,.int .i64 h0,.int .i64 h1,.int .i64 h2,.int .i64 h3,.int .i64 h4] 57)
     have hb1:=hb.trans (hbx.mono hb.size)
     have f1:(wr.alloc (.cells #[.string nm,.int .i64 bu,.int .i64 pe,.bool sc,.bool st,.slice pa pn pc,.int .i64 h0,.int .i64 h1,.int .i64 h2,.int .i64 h3,.int .i64 h4] 57)).cell? ⟨wr.heap.size,1,none⟩=some (.int .i64 bu):=World.cell?_alloc_mark _ _ _ _ _
     have f2:(wr.alloc (.cells #[.string nm,.int .i64 bu,.int .i64 pe,.bool sc,.bool st,.slice pa pn pc,.int .i64 h0,.int .i64 h1,.int .i64 h2,.int .i64 h3,.int .i64 h4] 57)).cell? ⟨wr.heap.size,2,none⟩=some (.int .i64 pe):=World.cell?_alloc_mark _ _ _ _ _
     have hgx:wr.heap.size < (wr.alloc (.cells #[.string nm,.int .i64 bu,.int .i64 pe,.bool sc,.bool st,.slice pa pn pc,.int .i64 h0,.int .i64 h1,.int .i64 h2,.int .i64 h3,.int .i64 h4] 57)).heap.size:=by simp
     clear c0 ck hx hbx
     go_wp2_with fail
     generalize wr.alloc (.cells #[.string nm,.int .i64 bu,.int .i64 pe,.bool sc,.bool st,.slice pa pn pc,.int .i64 h0,.int .i64 h1,.int .i64 h2,.int .i64 h3,.int .i64 h4] 57)=W2 at hb1 f1 f2 hgx ⊢
     generalize wr.heap.size=gx at f1 f2 hgx ⊢
     have HB1:=hid hb1
     clear d0 d1 d2 d3 d4 d5 d6 d7 d8 d9 d10 hb1 had
     by_cases hbu:0 < bu
     ·have hbd:decide (0 < bu)=true:=decide_eq_true hbu
      have HBG:Hid (Calls Tryz.prog 118 #[.slice A4 n4 c4,.int .i64 (j:Int),.int .i64 pe] W2.drew fun e w5=>e=.returned (.int .i64 (budL (wordsL L) (j:Int) pe))∧Below W2.heap.size W2 w5∧w5.cell? ⟨gx,1,none⟩=some (.int .i64 bu)∧w5.cell? ⟨gx,2,none⟩=some (.int .i64 pe)):=hid (by
       refine(bbudget_any A4 n4 c4 L (j:Int) pe W2.drew ((hL0.on HB1.out).below (Below.refl _ _).drew) q4 q5 ht hzx).mono ?_
       rintro e w5⟨rfl,hb5⟩
       have hb6:Below W2.heap.size W2 w5:=⟨hb5.os,hb5.tape,hb5.output,hb5.size,hb5.block⟩
       exact⟨rfl,hb6,(hb6.cell (p:=⟨gx,1,none⟩) hgx).trans f1,(hb6.cell (p:=⟨gx,2,none⟩) hgx).trans f2⟩)
      rw[← HX.out] at HBG
      have hps:ptShort X j ⟨nm,bu,pe,sc,st,pa,pn,pc,h0,h1,h2,h3,h4⟩=(decide (0 < bu) && decide (budL X (j:Int) pe < bu)):=rfl
      generalize budL X (j:Int) pe=z at HBG hps
      rw[hbd,Bool.true_and] at hps
      have HPS:=hid hps
      clear hps
      go_region_with (go_at_call 118;refine HBG.out.mono ?_;rintro e w5⟨rfl,hb5,g1,g2⟩)
      all_goals
       by_cases t2:z < bu
       ·have u2:decide (z < bu)=true:=decide_eq_true t2
        have hres:R=20:=by
         rw[HR.out]
         exact holdsF_short HALL.out (HSE.out (by rw[HPS.out];exact u2))
        subst hres
        go_wp2_with fail
        go_ret
        exact Ans.mk rfl (hb0.trans ((HB1.out.trans (hb5.mono HB1.out.size)).mono hb0.size))
       ·have u2:decide (z < bu)=false:=decide_eq_false t2
        have HN:Hid (shortF X 0 (P.take (j+1))=false):=hid (by rw[HSM.out,HSH.out,HPS.out,u2];rfl)
        go_wp2_with fail
        go_roundw
        case rel=>exact⟨j+1,by omega,by go_num,HN.out,HB1.out.trans (hb5.mono HB1.out.size)⟩
        case measure=>simp[intOf];omega
     ·have hbd:decide (0 < bu)=false:=decide_eq_false hbu
      have hps:ptShort X j ⟨nm,bu,pe,sc,st,pa,pn,pc,h0,h1,h2,h3,h4⟩=(decide (0 < bu) && decide (budL X (j:Int) pe < bu)):=rfl
      rw[hbd,Bool.false_and] at hps
      have HN:Hid (shortF X 0 (P.take (j+1))=false):=hid (by rw[HSM.out,HSH.out,hps];rfl)
      clear hps
      go_quiet (fail)
      go_wp2_with fail
      go_roundw
      case rel=>exact⟨j+1,by omega,by go_num,HN.out,Below.drewN HB1.out nq⟩
      case measure=>simp[intOf];omega
    ·have hge:n1≤j:=by omega
     have hres:R=0:=by
      rw[HR.out]
      refine holdsF_ok HALL.out ?_
      have h:=HSH.out
      rw[List.take_of_length_le (by rw[HPL.out];exact hge)] at h
      exact h
     subst hres
     go_wp2_with fail
     go_ret
     exact Ans.mk rfl (hb0.trans (hb.mono hb0.size))
end Go.Proofs.YtdkngfdnfekgfaaGreat
