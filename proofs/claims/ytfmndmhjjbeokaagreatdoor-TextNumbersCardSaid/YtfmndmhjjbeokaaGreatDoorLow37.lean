import Derived.Test.YtfmndmhjjbeokaaGreatDoorLow36
set_option maxHeartbeats 4000000
set_option maxRecDepth 100000
set_option linter.unusedSimpArgs false
set_option linter.unusedVariables false
namespace Go.Proofs.YtfmndmhjjbeokaaGreatDoor
open Go.RowKit Tab Txt
theorem Rv(A:Option Addr)(n cap:Nat)(x:Nd)(k:F)(AN:Option Addr)(nn cn:Nat)(L:List (List UInt8))(hL:∀ s∈L,s.length<=64)(w:World)(h:RdN w w.heap.size A n (x::k.flat))(hc:n<=cap)(hn:n<=1048576)(aB:(F.cons x k .nil).ok)(hN:RdB sc w w.heap.size AN nn L)(aA:∀ y∈x::k.flat,y.k=1->y.p < nn)(ht:Hr w):
  Calls Tryz.prog 34 #[.slice A n cap,.slice AN nn cn] w (Ans (.string (bsOf (txN (nmP L) x (txX (nmP L) k false)))) w):=by
 have HC:=hid (Tv A n cap (x::k.flat) hc hn AN nn cn L hL (k.sz+1) 0 x k .nil [] w (Ca _) h aB (by show x::k.flat=(x::(k.flat++[]))++[];simp) hN aA ht);generalize txN (nmP L) x (txX (nmP L) k false)=T at HC |-;generalize 0+1+k.sz=q at HC;clear h aB hN aA ht;go_in;go_wp2_with fail;refine HC.o.mono ?_;rintro e w1⟨rfl,hb⟩;go_wp2;go_ret;exact⟨rfl,hb⟩
theorem j6(A:Option Addr)(n cap:Nat)(z:Int)(hz:¬ z=0)(w:World)(h:Calls Tryz.prog 36 #[.slice A n cap] w (Ans (.int .i64 z) w)):
  Calls Tryz.prog 13 #[.slice A n cap] w (Ans (.string (bsOf [])) w):=by
 have H:=hid h;have q1:(z != 0)=true:=Bz.2 hz;clear h;go_in;go_wp2_with fail;refine H.o.mono ?_;rintro e w1⟨rfl,hb⟩;go_wp2;go_ret;exact⟨rfl,hb⟩
theorem Nr(A:Option Addr)(n cap:Nat)(x:Nd)(k:F)(w:World)(h:RdN w w.heap.size A n (x::k.flat))(hc:n<=cap)(hn:n<=1048576)(aD:(F.cons x k .nil).ok)(hr:Calls Tryz.prog 36 #[.slice A n cap] w (Ans (.int .i64 0) w))(ht:Hr w):
  Calls Tryz.prog 13 #[.slice A n cap] w (Ans (.string (bsOf (Gq x k))) w):=by
 have H:=hid hr;have HH:=hid h;have aR:=hid aD;have aM:=hid ht;have aQ:Hd (∀ y∈x::k.flat,y.k=1->y.p < ((6:Nat):Int)):=hid fun y hy hk=>by
  have h1:=Hh (F.cons x k .nil) aD y (by rw[show (F.cons x k .nil).flat=x::(k.flat++[]) from rfl,Az];exact hy);unfold fine at h1;rw[if_pos hk] at h1;simp only[Au,Av] at h1;omega
 clear h hr aD ht;go_in;go_wp2_with fail;refine H.o.mono ?_;rintro e w1⟨rfl,aL⟩;have aB:=hid aL;have aV:(Instr.makeSlice 39 (.int .i64 6) (.int .i64 6)).run Tryz.prog w1=.ok (.slice (some ⟨w1.heap.size,0,none⟩) 6 6) (w1.alloc (.cells (madeCells #[.string ⟨#[]⟩] 6) 9)):=Ih 6 (by omega) w1;have aJ:=bl1 w1 (.cells (madeCells #[.string ⟨#[]⟩] 6) 9);have aC:=D7 w1 9 1 w1.heap.size (madeCells #[.string ⟨#[]⟩] 6) 6 (by simp[size_madeCells]) (Ag _) (by unfold maxLen;omega);rw[Jz] at aC;have aH:=hid aJ;have aG:=hid aC;clear aL aJ aC H;go_wp2_with fail;generalize w1.alloc (.cells (madeCells #[.string ⟨#[]⟩] 6) 9)=wm at aH aG |-;go_loopw [4,11] (fun _ s wr=>∃ i:Nat,i<=6/\s=.int .i64 i/\OwnV 9 1 wr w1.heap.size (some ⟨w1.heap.size,0,none⟩) 6 6 (Ga num6 6 i)/\Below w1.heap.size w1 wr) (fun _ s _=>6 - (intOf s).toNat)
 case atStart=>exact⟨0,by omega,rfl,by rw[M6];exact aG.o,aH.o⟩
 obtain⟨i,hi,rfl,ho,hb⟩:=hrel;have HO:=hid ho;have HB:=hid hb;clear ho hb aG aH;by_cases aI:i < 6
 ·have aE:(i:Int) < 6:=by omega
  have aN:=hid (Hu i (by omega) wr (aM.o.on (aB.o.trans (HB.o.mono aB.o.size))));go_wp2_with fail;refine aN.o.mono ?_;rintro e w4⟨rfl,aF⟩;have aA:=OwnV.below HO.o rfl aF;have aK:=HB.o.trans (aF.mono HB.o.size);obtain⟨z0,c1⟩:∃ v,w4.cell? ⟨w1.heap.size,i,none⟩=some v:=⟨_,(Ah aA i (by omega)).trans (Am (by rw[aA.1];omega))⟩;have c2:=Aq aA i;have aT:Hd (OwnV 9 1 (w4.setCell ⟨w1.heap.size,i,none⟩ (.string (bsOf (numB i)))) w1.heap.size (some ⟨w1.heap.size,0,none⟩) 6 6 (Ga num6 6 (i+1))):=hid (by rw[<- Jt aI (Sr aI)];exact OwnV.set aA i _ (by rw[aA.1];omega));have aU:Hd (Below w1.heap.size w1 (w4.setCell ⟨w1.heap.size,i,none⟩ (.string (bsOf (numB i))))):=hid (aK.setCell (p:=⟨w1.heap.size,i,none⟩) (Ag _) _);clear aA aK aF aN;go_wp2;go_roundw
  case rel=>exact⟨i+1,by omega,by go_num,aT.o,aU.o⟩
  simp[intOf];omega
 have aE:¬ (i:Int) < 6:=by omega
 obtain rfl:i=6:=by omega
 have ho:=HO.o;rw[Ju (L:=num6) (n:=6) rfl] at ho;have hB:=aB.o.trans (HB.o.mono aB.o.size);have HC:=hid (Rv A n cap x k (some ⟨w1.heap.size,0,none⟩) 6 6 num6 Lf wr (HH.o.on hB) hc hn aR.o ⟨rfl,ho.rd⟩ aQ.o (aM.o.on hB));have aO:=hid hB;clear ho hB;go_wp2_with fail;refine HC.o.mono ?_;rintro e w3⟨rfl,aP⟩;go_wp2;go_ret;exact⟨rfl,aO.o.trans (aP.mono aO.o.size)⟩
theorem M4{B g n c:Nat}{L:List (List UInt8)}{w:World}(h:OwnV 9 1 w B (some ⟨g,0,none⟩) n c (L.flatMap sc))(hn:L.length=n)(hN:n<=1048576)(aA:(joinB 32 L).length<=1048576):
  Calls Tryz.prog 33 #[.slice (some ⟨g,0,none⟩) n c] w (Ans (.string (bsOf (joinB 32 L++[10]))) w):=by
 have HJ:=hid (Lx 32 h hn hN (by omega));have ad:=sadd (joinB 32 L) [10] (by show _+1<=_;omega);have aB:bsOf [32]=⟨#[32]⟩:=rfl;have aC:bsOf [10]=⟨#[10]⟩:=rfl;rw[aB] at HJ;rw[aC] at ad;generalize bsOf (joinB 32 L++[10])=s2 at ad |-;generalize bsOf (joinB 32 L)=s1 at ad HJ;clear h;go_in;go_wp2_with fail;refine HJ.o.mono ?_;rintro e w1⟨rfl,hb⟩;go_wp2;go_ret;exact Ans.mk rfl hb
theorem Xo(x:PtV)(w:World):Calls Tryz.prog 59 #[pv x] w (Ans (.string (bsOf (flagT x.sched x.stop))) w):=by
 obtain⟨nm,bu,pe,sc,st,pa,pn,pc,h0,h1,h2,h3,h4⟩:=x;have hb:=bl1 w (.cells #[.string nm,.int .i64 bu,.int .i64 pe,.bool sc,.bool st,.slice pa pn pc,.int .i64 h0,.int .i64 h1,.int .i64 h2,.int .i64 h3,.int .i64 h4] 60);have n3:(w.alloc (.cells #[.string nm,.int .i64 bu,.int .i64 pe,.bool sc,.bool st,.slice pa pn pc,.int .i64 h0,.int .i64 h1,.int .i64 h2,.int .i64 h3,.int .i64 h4] 60)).cell? ⟨w.heap.size,3,none⟩=some (.bool sc):=Ab _ _ _ _ _;have n4:(w.alloc (.cells #[.string nm,.int .i64 bu,.int .i64 pe,.bool sc,.bool st,.slice pa pn pc,.int .i64 h0,.int .i64 h1,.int .i64 h2,.int .i64 h3,.int .i64 h4] 60)).cell? ⟨w.heap.size,4,none⟩=some (.bool st):=Ab _ _ _ _ _;have HB:=hid hb;dsimp only;clear hb;go_in;go_upto_region 1 with fail;generalize w.alloc (.cells #[.string nm,.int .i64 bu,.int .i64 pe,.bool sc,.bool st,.slice pa pn pc,.int .i64 h0,.int .i64 h1,.int .i64 h2,.int .i64 h3,.int .i64 h4] 60)=W at n3 n4 HB |-;generalize w.heap.size=gx at n3 n4 |-;cases sc <;> cases st
 all_goals
  go_wp2;go_ret;exact Ans.mk rfl HB.o
theorem di(x:PtV){i:Nat}(hi:i < 5)(W:World):(Instr.index 58 (.agg #[.int .i64 x.h0,.int .i64 x.h1,.int .i64 x.h2,.int .i64 x.h3,.int .i64 x.h4]) (.int .i64 (i:Int))).run Tryz.prog W=.ok (.int .i64 (hv5 x i)) W:=by
 match i,hi with
 | 0,_=>go_simp;rfl
 | 1,_=>go_simp;rfl
 | 2,_=>go_simp;rfl
 | 3,_=>go_simp;rfl
 | 4,_=>go_simp;rfl
theorem Xn(x:PtV)(hx:∀ j,0<=hv5 x j/\hv5 x j<=2)(w:World)(ht:Hr w):Calls Tryz.prog 60 #[.agg #[.int .i64 x.h0,.int .i64 x.h1,.int .i64 x.h2,.int .i64 x.h3,.int .i64 x.h4]] w (Ans (.string (bsOf (healT x))) w):=by
 have HX:=hid hx;have HT:=hid ht;have HA:=hid (Qf x);have HS:=hid fun k=>It x k;have hb:=bl1 w (.cells #[.int .i64 x.h0,.int .i64 x.h1,.int .i64 x.h2,.int .i64 x.h3,.int .i64 x.h4] 58);have ho:=D7 w 58 5 w.heap.size #[.int .i64 x.h0,.int .i64 x.h1,.int .i64 x.h2,.int .i64 x.h3,.int .i64 x.h4] 1 rfl (Ag _) (by unfold maxLen;omega);have HB:=hid hb;have HO:=hid ho;have HL:Hd (∀ k,k<=5->(Gs x k).length<=k*5):=hid (by
  intro k;induction k with
  | zero=>intro _;simp[Gs]
  | succ k ih =>
   intro hk;have h1:=ih (by omega);have h2:=num_few (n:=(hv5 x k).toNat) (by have:=hx k;omega);rw[It,Aa];omega)
 clear hb ho hx ht;go_in;go_wp2_with fail;generalize w.alloc (.cells #[.int .i64 x.h0,.int .i64 x.h1,.int .i64 x.h2,.int .i64 x.h3,.int .i64 x.h4] 58)=wz at HB |-;go_loopw [3,7] (fun o q wr=>∃ i:Nat,i<=5/\q=.int .i64 i/\o=.string (bsOf (Gs x i))/\Below w.heap.size w wr) (fun _ q _=>5 - (intOf q).toNat)
 case atStart=>exact⟨0,by omega,rfl,rfl,HB.o⟩
 obtain⟨i,hi,rfl,rfl,aD⟩:=hrel;have aA:=hid aD;clear aD;by_cases aE:i < 5
 ·have aC:(i:Int) < 5:=by omega
  have h5:=HX.o i;obtain⟨v,hv⟩:∃ v:Nat,hv5 x i=v:=⟨(hv5 x i).toNat,by omega⟩;have hg:=di x aE wr;rw[hv] at hg;have HN:=hid (Hu v (by omega) wr (HT.o.on aA.o));have hs:=HS.o i;rw[hv,Bx] at hs;have ad:=sadd (Gs x i) (numB v) (by have:=HL.o i (by omega);have:=num_few (n:=v) (by omega);omega);rw[<- hs] at ad;obtain⟨s2,aB⟩:∃ s,s=bsOf (Gs x (i+1)):=⟨_,rfl⟩;rw[<- aB] at ad;have aG:=hid aB;clear aB;generalize bsOf (Gs x i)=s1 at ad |-;generalize bsOf (numB v)=sn at ad HN;clear hs hv h5;go_wp2_with fail;refine HN.o.mono ?_;rintro e w1⟨rfl,aF⟩;have aH:=hid (aA.o.trans (aF.mono aA.o.size));go_wp2;go_roundw
  case rel=>exact⟨i+1,by omega,by go_num,congrArg Value.string aG.o,aH.o⟩
  simp[intOf];omega
 have aC:¬ (i:Int) < 5:=by omega
 obtain rfl:i=5:=by omega
 rw[HA.o];go_wp2;go_ret;exact Ans.mk rfl aA.o
structure StB(k:Nat)(W0:World)(p:Addr)(v:Value)(live:Nat->Bool)(a:Act)(w:World):Prop where
 off:live k=false->Below W0.heap.size W0 w
 on:live k=true->∃ w1,Below W0.heap.size W0 w1/\w=w1.setCell p v
theorem StB.start(k:Nat)(W0:World)(p:Addr)(v:Value)(a:Act):StB k W0 p v (fun _=>false) a W0.drew:=⟨fun _=>(Aj _ _).drew,fun h=>(by cases h)⟩
theorem StB.upd{k:Nat}{W0:World}{p:Addr}{v:Value}{live:Nat->Bool}{a:Act}{w w':World}(h:StB k W0 p v live a w)(hl:live k=false)(hb:Below w.heap.size w w')(i:Nat)(hi:i≠k)(d:Option Tmp)(x:Value):StB k W0 p v (Rgs.upd live i) (a.put d x) w':=by
 have e:Rgs.upd live i k=live k:=by unfold Rgs.upd;simp[Ne.symm hi]
 have h1:=h.off hl;exact⟨fun _=>h1.trans (hb.mono h1.size),fun e2=>by rw[e,hl] at e2;cases e2⟩
theorem StB.put{k:Nat}{W0:World}{p:Addr}{v:Value}{live:Nat->Bool}{a a':Act}{w:World}(h:StB k W0 p v live a w)(hl:live k=false):StB k W0 p v (Rgs.upd live k) a' (w.setCell p v) :=
 ⟨fun e=>absurd e (by rw[Rgs.upd_self];decide),fun _=>⟨w,h.off hl,rfl⟩⟩
theorem Zr(A:Option Addr)(n c:Nat)(L:List (Int×Int))(w:World)(h:RdB prc w w.heap.size A n L)(hn:n<=64)(hc:n<=c)(hp:∀ q∈L,Fm q=true)(ht:Hr w):
  Calls Tryz.prog 61 #[.slice A n c] w (Ans (.string (bsOf (joinB 44 (L.map procT)))) w):=by
 have bN:=hid h;have HP:=hid hp;have HT:=hid ht;have aV:(L.map procT).length=n:=by rw[Bi];exact h.len
 have aQ:=hid aV;have bC:Hd ((Instr.makeSlice 39 (.int .i64 (n:Int)) (.int .i64 (n:Int))).run Tryz.prog w=.ok (.slice (some ⟨w.heap.size,0,none⟩) n n) (w.alloc (.cells (madeCells #[.string ⟨#[]⟩] n) 9))):=hid (Ih n (by omega) w);have aR:=hid (bl1 w (.cells (madeCells #[.string ⟨#[]⟩] n) 9));have aJ:=D7 w 9 1 w.heap.size (madeCells #[.string ⟨#[]⟩] n) n (by simp[size_madeCells]) (Ag _) (by unfold maxLen;omega);rw[Jz] at aJ;have aD:=hid aJ;have bI:=bC.o;clear aJ h hp ht aV;go_in;go_wp2_with fail;generalize w.alloc (.cells (madeCells #[.string ⟨#[]⟩] n) 9)=wm at aR aD |-;obtain⟨gs,aL⟩:∃ g,g=w.heap.size:=⟨_,rfl⟩;rw[<- aL] at aD |-;have bQ:=hid aL;clear bI bC aL;go_loopw [11] (fun s wr=>∃ i:Nat,i<=n/\s=.int .i64 i/\OwnV 9 1 wr gs (some ⟨gs,0,none⟩) n n (Ga (L.map procT) n i)/\Below w.heap.size w wr) (fun s _=>n - (intOf s).toNat)
 case atStart=>exact⟨0,by omega,rfl,by rw[M6];exact aD.o,aR.o⟩
 obtain⟨i,hi,rfl,ho,hb⟩:=hrel;clear aD aR;by_cases bJ:i < n
 ·obtain⟨ap,q,rfl,bL,hq,e0,ek⟩:=(bN.o.on hb).at_ F5 (by omega) bJ;have aU:(L.map procT)[i]? = some (procT q):=by rw[Bm,hq];rfl
  have HQ:=hid aU;have e0:=e0 _ rfl;have e1:=ek 1 _ (by omega) rfl;have qi:=HP.o q (An hq);obtain⟨bG,bF⟩:=q;dsimp only at e0 e1 qi;unfold Fm at qi;simp only[Au,Av] at qi;obtain⟨qe,h1⟩:=Ax (show 0<=bG by omega);obtain⟨qp,h2⟩:=Ax (show 0<=bF by omega);subst h1;subst h2;have QI:Hd (qe < 100000/\qp < 100000):=hid (by omega);have aN:=bl1 wr (.cells #[.int .i64 (qe:Int),.int .i64 (qp:Int)] 62);have aM:=hb.trans (aN.mono hb.size);have f:∀ o v,(#[Value.int .i64 (qe:Int),.int .i64 (qp:Int)]:Array Value)[o]? = some v->(wr.alloc (.cells #[.int .i64 (qe:Int),.int .i64 (qp:Int)] 62)).cell? ⟨wr.heap.size,o,none⟩=some v:=fun o v hv=>(Ab _ _ _ _ _).trans hv;have aC:wr.heap.size < (wr.alloc (.cells #[.int .i64 (qe:Int),.int .i64 (qp:Int)] 62)).heap.size:=by simp
  have aE:=hid (OwnV.below ho rfl aN);clear ek bL hq aN qi hb aU ho;go_upto_region 5 with fail;generalize wr.alloc (.cells #[.int .i64 (qe:Int),.int .i64 (qp:Int)] 62)=w8 at aM f aC aE |-;generalize wr.heap.size=gy at f aC |-;have aB:=hid aM
  have bD:=hid fun V (hv:Below w8.heap.size w8 V) o v hq=>(hv.cell (p:=⟨gy,o,none⟩) aC).trans (f o v hq);have bE:Hd (∀ V,Below w8.heap.size w8 V->V.cell? ⟨gs,i,none⟩=some (((Ga (L.map procT) n i)[i]?).getD (.string ⟨#[]⟩))/\V.frozen? ⟨gs,i,none⟩=false):=hid fun V hv=>by
   have ho:=OwnV.below aE.o rfl hv;have hl:=ho.1;refine⟨?_,Aq ho i⟩;have h1:=Ah ho i (by omega);have h2:i < (Ga (L.map procT) n i).length:=by omega
   rw[h1,Am h2];rfl
  have bB:=hid fun V (hv:Below w8.heap.size w8 V)=>Hu qe (by have:=QI.o;omega) V (HT.o.on (aB.o.trans (hv.mono aB.o.size)));have bA:=hid fun V (hv:Below w8.heap.size w8 V)=>Hu qp (by have:=QI.o;omega) V (HT.o.on (aB.o.trans (hv.mono aB.o.size)));obtain⟨sa,aI⟩:∃ s,s=bsOf (numB qe):=⟨_,rfl⟩;obtain⟨aT,aG⟩:∃ s,s=bsOf (numB qp):=⟨_,rfl⟩;obtain⟨sb,aH⟩:∃ s,s=bsOf (numB qe++[58]):=⟨_,rfl⟩;obtain⟨sd,aF⟩:∃ s,s=bsOf ((numB qe++[58])++numB qp):=⟨_,rfl⟩;have l1:=num_few (n:=qe) QI.o.1;have l2:=num_few (n:=qp) QI.o.2;have bY:∀ W,(Op.stringOp .add sa ⟨#[58]⟩).run Tryz.prog W=.ok (.string sb) W:=by rw[aI,aH];exact sadd (numB qe) [58] (by show _+1<=_;omega)
  have bX:∀ W,(Op.stringOp .add sb aT).run Tryz.prog W=.ok (.string sd) W:=by rw[aH,aG,aF];exact sadd _ _ (by rw[Aa];show _+1+_<=_;omega)
  have bO:Hd (sd=bsOf (procT ((qe:Int),(qp:Int)))):=hid (by rw[aF];unfold procT;simp);rw[<- aI] at bB;rw[<- aG] at bA;clear aM aC f e0 e1 aI aH aG aF l1 l2;refine Rgs.region (by kernel_rfl) (by kernel_rfl) (fun(bH:Nat) (vl:Value) (wv:World)=>match bH with
    | 0=>vl=.slice (some ⟨gs,0,none⟩) n n
    | 1=>vl=.int .i64 (i:Int)
    | 2=>vl=.pointer (some ⟨gy,0,none⟩)
    | 3=>vl=.int .i64 (qe:Int)
    | 4=>vl=.string sa
    | 5=>vl=.string sb
    | 6=>vl=.pointer (some ⟨gy,1,none⟩)
    | 7=>vl=.int .i64 (qp:Int)
    | 8=>vl=.string aT
    | 9=>vl=.string sd
    | 10=>vl=.pointer (some ⟨gs,i,none⟩)
    | 11=>True
    | _=>True) (StB 11 w8 ⟨gs,i,none⟩ (.string sd)) (StB.start _ _ _ _ _) (Rgs.steps_of ?_) ?_
  ·refine⟨?_,?_,?_,?_,?_,?_,?_,?_,?_,?_,?_,?_,trivial⟩<;>intro a w1 live S E D C h0 hk hX
   ·have aA:=D3 C h0 [10] 11 rfl;have hW:=hX.off aA;have e3:a.eval _=.slice (some ⟨gs,0,none⟩) n n:=E 3 rfl;exact Dw (hX.upd aA (Aj _ _) 0 (by decide) _ _)
   ·have aA:=D3 C h0 [10] 11 rfl;have hW:=hX.off aA;have e4:a.eval _=.int .i64 (i:Int):=E 4 rfl;exact Dw (hX.upd aA (Aj _ _) 1 (by decide) _ _)
   ·have aA:=D3 C h0 [3,4,5,9] 11 rfl;have hW:=hX.off aA;have e5:a.eval _=.pointer (some ⟨gy,0,none⟩):=E 5 rfl;exact Dw (hX.upd aA (Aj _ _) 2 (by decide) _ _)
   ·have aA:=D3 C h0 [4,5,9] 11 rfl;have hW:=hX.off aA;have d2:_=_:=rgsDe D 2;have aX:=bD.o w1 hW 0 _ rfl;exact Dw (hX.upd aA (Aj _ _) 3 (by decide) _ _)
   ·have aA:=D3 C h0 [5,9] 11 rfl;have hW:=hX.off aA;have d3:_=_:=rgsDe D 3;refine Ei 37 #[.int .i64 (qe:Int)] ?_;refine(bB.o w1 hW).mono ?_;rintro e w5⟨rfl,aO⟩;exact⟨_,rfl,rfl,(hX.upd aA aO 4 (by decide) _ _),fun jq vq _ hq=>hq⟩
   ·have aA:=D3 C h0 [9] 11 rfl;have hW:=hX.off aA;have d4:_=_:=rgsDe D 4;exact Dw (hX.upd aA (Aj _ _) 5 (by decide) _ _)
   ·have aA:=D3 C h0 [7,8,9] 11 rfl;have hW:=hX.off aA;have e5:a.eval _=.pointer (some ⟨gy,0,none⟩):=E 5 rfl;exact Dw (hX.upd aA (Aj _ _) 6 (by decide) _ _)
   ·have aA:=D3 C h0 [8,9] 11 rfl;have hW:=hX.off aA;have d6:_=_:=rgsDe D 6;have aX:=bD.o w1 hW 1 _ rfl;exact Dw (hX.upd aA (Aj _ _) 7 (by decide) _ _)
   ·have aA:=D3 C h0 [9] 11 rfl;have hW:=hX.off aA;have d7:_=_:=rgsDe D 7;refine Ei 37 #[.int .i64 (qp:Int)] ?_;refine(bA.o w1 hW).mono ?_;rintro e w5⟨rfl,aO⟩;exact⟨_,rfl,rfl,(hX.upd aA aO 8 (by decide) _ _),fun jq vq _ hq=>hq⟩
   ·have aA:=D3 C h0 [] 11 rfl;have hW:=hX.off aA;have d5:_=_:=rgsDe D 5;have d8:_=_:=rgsDe D 8;exact Dw (hX.upd aA (Aj _ _) 9 (by decide) _ _)
   ·have aA:=D3 C h0 [] 11 rfl;have hW:=hX.off aA;have d0:_=_:=rgsDe D 0;have d1:_=_:=rgsDe D 1;have bV:=Jh gs i;have bS:¬ n<=i:=by omega
    exact Dw (hX.upd aA (Aj _ _) 10 (by decide) _ _)
   have hW:=hX.off h0;have bW:_=_:=rgsDe D 10;have d9:_=_:=rgsDe D 9;have aX:=(bE.o w1 hW).1;have bU:=(bE.o w1 hW).2;exact Jc (w1.setCell ⟨gs,i,none⟩ (.string sd)) trivial (hX.put h0) (fun j v _ h=>h)
  intro a w4 live hs hd E D Hl hX;rw[Rgs.act_ws a _ _ hs hd E [16,17,18,19,20,21,22,23,24,25,26] (by kernel_rfl)];simp only[List.foldl,Bg,Bv,Bp];obtain⟨wq,aY,rfl⟩:=hX.on (Hl 11 (by decide));have aZ:=hid aY;clear aY E D Hl hX;generalize a.eval=ρ;clear a hs hd;have aP:=aZ.o;have aK:=OwnV.below aE.o rfl aP;have bP:=hid (OwnV.set aK i (.string sd) (by rw[aK.1];omega));have bR:=hid ((aB.o.trans (aP.mono aB.o.size)).setCell (p:=⟨gs,i,none⟩) (Nat.le_of_eq bQ.o.symm) (.string sd));clear aP aK aZ aE aB;go_wp2;go_roundw
  case rel=>exact⟨i+1,by omega,by go_num,by rw[<- Jt (by omega) HQ.o,<- bO.o];exact bP.o,bR.o⟩
  simp[intOf];omega
 have bT:¬ (i:Int) < (n:Int):=by omega
 obtain rfl:i=n:=by omega
 rw[Ju aQ.o] at ho;have bM:bsOf [44]=⟨#[44]⟩:=rfl;have HJ:=hid (Lx 44 ho aQ.o (by omega) (by
  have h1:∀ M:List (Int×Int),(∀ q∈M,Fm q=true)->(joinB 44 (M.map procT)).length<=M.length*12:=fun M hM=>by
   cases M with
   | nil=>exact Cr _
   | cons q M =>
    have h1:=(Jd q M).2;have h2:=In (q::M) false hM;rw[h1,Ad] at h2;omega
  have h2:=h1 L HP.o;have h3:=aQ.o;rw[Bi] at h3;omega))
 rw[bM] at HJ;have HB:=hid hb;clear ho hb;go_wp2_with fail;refine HJ.o.mono ?_;rintro e w3⟨rfl,bK⟩;go_wp2;go_ret;exact Ans.mk rfl (HB.o.trans (bK.mono HB.o.size))
theorem Tx(y:Pq)(w:World)(hy:Ie y)(aQ:RdB prc w w.heap.size y.1.pa y.1.pn y.2)(aX:y.1.pn<=y.1.pc)(ht:Hr w):
  Calls Tryz.prog 31 #[pv y.1] w (Ans (.string (bsOf (I0 y))) w):=by
 have bG:=hid (Hy hy aQ.len);have PI:=hid hy;have PR:=hid aQ;have HT:=hid ht;have aD:=hy.bud;have aC:=hy.per;have aE:=hy.few;have aT:Hd (I0 y=joinB 32 (partW y)++[10]):=hid rfl;obtain⟨⟨nm,bud,per,aB,st,pa,pn,pc,y0,y1,y2,y3,y4⟩,L⟩:=y;dsimp only at aD aC aE aX;obtain⟨bu,h1⟩:=Ax aD.1;obtain⟨pe,h2⟩:=Ax aC.1;subst h1;subst h2;have BU:Hd (bu<=4096/\pe<=4096/\pn<=3/\pn<=pc):=hid (by omega);have hb:=bl1 w (.cells #[.string nm,.int .i64 (bu:Int),.int .i64 (pe:Int),.bool aB,.bool st,.slice pa pn pc,.int .i64 y0,.int .i64 y1,.int .i64 y2,.int .i64 y3,.int .i64 y4] 60);have f0:∀ o v,(#[Value.string nm,.int .i64 (bu:Int),.int .i64 (pe:Int),.bool aB,.bool st,.slice pa pn pc,.int .i64 y0,.int .i64 y1,.int .i64 y2,.int .i64 y3,.int .i64 y4]:Array Value)[o]? = some v->(w.alloc (.cells #[.string nm,.int .i64 (bu:Int),.int .i64 (pe:Int),.bool aB,.bool st,.slice pa pn pc,.int .i64 y0,.int .i64 y1,.int .i64 y2,.int .i64 y3,.int .i64 y4] 60)).cell? ⟨w.heap.size,o,none⟩=some v:=fun o v hv=>(Ab _ _ _ _ _).trans hv;have aI:w.heap.size < (w.alloc (.cells #[.string nm,.int .i64 (bu:Int),.int .i64 (pe:Int),.bool aB,.bool st,.slice pa pn pc,.int .i64 y0,.int .i64 y1,.int .i64 y2,.int .i64 y3,.int .i64 y4] 60)).heap.size:=by simp
 dsimp only;clear hy aQ ht aD aC aE aX;go_in;go_upto_region 1 with fail;generalize w.alloc (.cells #[.string nm,.int .i64 (bu:Int),.int .i64 (pe:Int),.bool aB,.bool st,.slice pa pn pc,.int .i64 y0,.int .i64 y1,.int .i64 y2,.int .i64 y3,.int .i64 y4] 60)=w8 at hb f0 aI |-;generalize w.heap.size=gx at f0 aI |-;have aJ:=hid hb;have HF:=hid fun V (hv:Below w8.heap.size w8 V) o v hq=>(hv.cell (p:=⟨gx,o,none⟩) aI).trans (f0 o v hq);have aH:Hd (∀ V,Below w8.heap.size w8 V->Below w.heap.size w V):=hid fun V hv=>aJ.o.trans (hv.mono aJ.o.size);obtain⟨s1,aP⟩:∃ s,s=bsOf (numB bu):=⟨_,rfl⟩;obtain⟨s2,aO⟩:∃ s,s=bsOf (numB pe):=⟨_,rfl⟩;obtain⟨s3,aN⟩:∃ s,s=bsOf (flagT aB st):=⟨_,rfl⟩;obtain⟨s4,aM⟩:∃ s,s=bsOf (healT ⟨nm,(bu:Int),(pe:Int),aB,st,pa,pn,pc,y0,y1,y2,y3,y4⟩):=⟨_,rfl⟩;obtain⟨s5,aL⟩:∃ s,s=bsOf (joinB 44 (L.map procT)):=⟨_,rfl⟩;obtain⟨s6,aK⟩:∃ s,s=bsOf (I0 (⟨nm,(bu:Int),(pe:Int),aB,st,pa,pn,pc,y0,y1,y2,y3,y4⟩,L)):=⟨_,rfl⟩;have bF:=hid fun V (hv:Below w8.heap.size w8 V)=>Ht bu (by have:=BU.o;omega) V (HT.o.on (aH.o V hv));have bE:=hid fun V (hv:Below w8.heap.size w8 V)=>Ht pe (by have:=BU.o;omega) V (HT.o.on (aH.o V hv));have aV:=hid fun V (hv:Below w8.heap.size w8 V)=>Xo ⟨nm,(bu:Int),(pe:Int),aB,st,pa,pn,pc,y0,y1,y2,y3,y4⟩ V;have aU:=hid fun V (hv:Below w8.heap.size w8 V)=>Xn ⟨nm,(bu:Int),(pe:Int),aB,st,pa,pn,pc,y0,y1,y2,y3,y4⟩ PI.o.hl V (HT.o.on (aH.o V hv));have bD:=hid fun V (hv:Below w8.heap.size w8 V)=>Zr pa pn pc L V (PR.o.on (aH.o V hv)) (by have:=BU.o;omega) BU.o.2.2.2 PI.o.pr (HT.o.on (aH.o V hv));have aG:Hd ([Value.string ⟨#[112,97,114,116]⟩,.string nm,.string s1,.string s2,.string s3,.string s4,.string s5]=(partW (⟨nm,(bu:Int),(pe:Int),aB,st,pa,pn,pc,y0,y1,y2,y3,y4⟩,L)).flatMap sc):=hid (by rw[aP,aO,aN,aM,aL];rfl);have bC:=hid fun V gl (ho:OwnV 9 1 V w8.heap.size (some ⟨gl,0,none⟩) 7 7 [Value.string ⟨#[112,97,114,116]⟩,.string nm,.string s1,.string s2,.string s3,.string s4,.string s5])=>M4 (n:=7) (c:=7) (L:=partW (⟨nm,(bu:Int),(pe:Int),aB,st,pa,pn,pc,y0,y1,y2,y3,y4⟩,L)) (by rw[<- aG.o];exact ho) rfl (by omega) (by have h:=bG.o;rw[aT.o,Aa] at h;omega);rw[<- aT.o,<- aK] at bC;rw[<- aP] at bF;rw[<- aO] at bE;dsimp only at aV aU;rw[<- aN] at aV;rw[<- aM] at aU;rw[<- aL] at bD;have bP:=hid aK;clear hb f0 aI aP aO aN aM aL aK aG aT bG;refine Rgs.region (by kernel_rfl) (by kernel_rfl) (fun(bH:Nat) (vl:Value) (wv:World)=>match bH with
   | 0=>vl=.pointer (some ⟨gx,0,none⟩)
   | 1=>vl=.string nm
   | 2=>vl=.pointer (some ⟨gx,1,none⟩)
   | 3=>vl=.int .i64 (bu:Int)
   | 4=>vl=.string s1
   | 5=>vl=.pointer (some ⟨gx,2,none⟩)
   | 6=>vl=.int .i64 (pe:Int)
   | 7=>vl=.string s2
   | 8=>vl=pv ⟨nm,(bu:Int),(pe:Int),aB,st,pa,pn,pc,y0,y1,y2,y3,y4⟩
   | 9=>vl=.string s3
   | 10=>vl=.pointer (some ⟨gx,6,none⟩)
   | 11=>vl=.agg #[.int .i64 y0,.int .i64 y1,.int .i64 y2,.int .i64 y3,.int .i64 y4]
   | 12=>vl=.string s4
   | 13=>vl=.pointer (some ⟨gx,5,none⟩)
   | 14=>vl=.slice pa pn pc
   | 15=>vl=.string s5
   | 16=>∃ gq,vl=.slice (some ⟨gq,0,none⟩) (7:Nat) 7/\OwnV 9 1 wv w8.heap.size (some ⟨gq,0,none⟩) 7 7 [.string ⟨#[112,97,114,116]⟩,.string nm,.string s1,.string s2,.string s3,.string s4,.string s5]
   | 17=>vl=.string s6
   | 18=>vl=.string s6
   | _=>True) (fun _ _ wv=>Below w8.heap.size w8 wv) (Aj _ _).drew (Rgs.steps_of ?_) ?_
 ·refine⟨?_,?_,?_,?_,?_,?_,?_,?_,?_,?_,?_,?_,?_,?_,?_,?_,?_,?_,?_,trivial⟩<;>intro a w1 live S E D C h0 hk hX
  ·have hW:=hX;have e1:a.eval _=.pointer (some ⟨gx,0,none⟩):=E 1 rfl;exact Dw hW
  ·have hW:=hX;have d0:_=_:=rgsDe D 0;have aF:=HF.o w1 hW 0 _ rfl;have bB:=HF.o w1 hW 1 _ rfl;have bA:=HF.o w1 hW 2 _ rfl;have aZ:=HF.o w1 hW 3 _ rfl;have aY:=HF.o w1 hW 4 _ rfl;have bM:=HF.o w1 hW 5 _ rfl;have bL:=HF.o w1 hW 6 _ rfl;have bK:=HF.o w1 hW 7 _ rfl;have bJ:=HF.o w1 hW 8 _ rfl;have bI:=HF.o w1 hW 9 _ rfl;have aR:=HF.o w1 hW 10 _ rfl;exact Dw hW
  ·have hW:=hX;have e1:a.eval _=.pointer (some ⟨gx,0,none⟩):=E 1 rfl;exact Dw hW
  ·have hW:=hX;have d2:_=_:=rgsDe D 2;have aF:=HF.o w1 hW 1 _ rfl;exact Dw hW
  ·have hW:=hX;have d3:_=_:=rgsDe D 3;refine Ei 58 #[.int .i64 (bu:Int)] ?_;refine(bF.o w1 hW).mono ?_;rintro e w5⟨rfl,aA⟩;exact⟨_,rfl,rfl,(hW.trans (aA.mono hW.size)),fun jq vq _ hq=>by
    revert hq
    match jq with
    | 16=>exact fun⟨gq,e1,e2⟩=>⟨gq,e1,OwnV.below e2 rfl aA⟩
    | 0 | 1 | 2 | 3 | 4 | 5 | 6 | 7 | 8 | 9 | 10 | 11 | 12 | 13 | 14 | 15 | 17 | 18 | _+19=>exact fun hq=>hq⟩
  ·have hW:=hX;have e1:a.eval _=.pointer (some ⟨gx,0,none⟩):=E 1 rfl;exact Dw hW
  ·have hW:=hX;have d5:_=_:=rgsDe D 5;have aF:=HF.o w1 hW 2 _ rfl;exact Dw hW
  ·have hW:=hX;have d6:_=_:=rgsDe D 6;refine Ei 58 #[.int .i64 (pe:Int)] ?_;refine(bE.o w1 hW).mono ?_;rintro e w5⟨rfl,aA⟩;exact⟨_,rfl,rfl,(hW.trans (aA.mono hW.size)),fun jq vq _ hq=>by
    revert hq
    match jq with
    | 16=>exact fun⟨gq,e1,e2⟩=>⟨gq,e1,OwnV.below e2 rfl aA⟩
    | 0 | 1 | 2 | 3 | 4 | 5 | 6 | 7 | 8 | 9 | 10 | 11 | 12 | 13 | 14 | 15 | 17 | 18 | _+19=>exact fun hq=>hq⟩
  ·have hW:=hX;have e1:a.eval _=.pointer (some ⟨gx,0,none⟩):=E 1 rfl;have aF:=HF.o w1 hW 0 _ rfl;have bB:=HF.o w1 hW 1 _ rfl;have bA:=HF.o w1 hW 2 _ rfl;have aZ:=HF.o w1 hW 3 _ rfl;have aY:=HF.o w1 hW 4 _ rfl;have bM:=HF.o w1 hW 5 _ rfl;have bL:=HF.o w1 hW 6 _ rfl;have bK:=HF.o w1 hW 7 _ rfl;have bJ:=HF.o w1 hW 8 _ rfl;have bI:=HF.o w1 hW 9 _ rfl;have aR:=HF.o w1 hW 10 _ rfl;exact Dw hW
  ·have hW:=hX;have d8:_=_:=rgsDe D 8;refine Ei 59 #[pv ⟨nm,(bu:Int),(pe:Int),aB,st,pa,pn,pc,y0,y1,y2,y3,y4⟩] ?_;refine(aV.o w1 hW).mono ?_;rintro e w5⟨rfl,aA⟩;exact⟨_,rfl,rfl,(hW.trans (aA.mono hW.size)),fun jq vq _ hq=>by
    revert hq
    match jq with
    | 16=>exact fun⟨gq,e1,e2⟩=>⟨gq,e1,OwnV.below e2 rfl aA⟩
    | 0 | 1 | 2 | 3 | 4 | 5 | 6 | 7 | 8 | 9 | 10 | 11 | 12 | 13 | 14 | 15 | 17 | 18 | _+19=>exact fun hq=>hq⟩
  ·have hW:=hX;have e1:a.eval _=.pointer (some ⟨gx,0,none⟩):=E 1 rfl;exact Dw hW
  ·have hW:=hX;have bT:_=_:=rgsDe D 10;have aF:=HF.o w1 hW 6 _ rfl;have bB:=HF.o w1 hW 7 _ rfl;have bA:=HF.o w1 hW 8 _ rfl;have aZ:=HF.o w1 hW 9 _ rfl;have aY:=HF.o w1 hW 10 _ rfl;exact Dw hW
  ·have hW:=hX;have bS:_=_:=rgsDe D 11;refine Ei 60 #[.agg #[.int .i64 y0,.int .i64 y1,.int .i64 y2,.int .i64 y3,.int .i64 y4]] ?_;refine(aU.o w1 hW).mono ?_;rintro e w5⟨rfl,aA⟩;exact⟨_,rfl,rfl,(hW.trans (aA.mono hW.size)),fun jq vq _ hq=>by
    revert hq
    match jq with
    | 16=>exact fun⟨gq,e1,e2⟩=>⟨gq,e1,OwnV.below e2 rfl aA⟩
    | 0 | 1 | 2 | 3 | 4 | 5 | 6 | 7 | 8 | 9 | 10 | 11 | 12 | 13 | 14 | 15 | 17 | 18 | _+19=>exact fun hq=>hq⟩
  ·have hW:=hX;have e1:a.eval _=.pointer (some ⟨gx,0,none⟩):=E 1 rfl;exact Dw hW
  ·have hW:=hX;have d13:_=_:=rgsDe D 13;have aF:=HF.o w1 hW 5 _ rfl;exact Dw hW
  ·have hW:=hX;have bR:_=_:=rgsDe D 14;refine Ei 61 #[.slice pa pn pc] ?_;refine(bD.o w1 hW).mono ?_;rintro e w5⟨rfl,aA⟩;exact⟨_,rfl,rfl,(hW.trans (aA.mono hW.size)),fun jq vq _ hq=>by
    revert hq
    match jq with
    | 16=>exact fun⟨gq,e1,e2⟩=>⟨gq,e1,OwnV.below e2 rfl aA⟩
    | 0 | 1 | 2 | 3 | 4 | 5 | 6 | 7 | 8 | 9 | 10 | 11 | 12 | 13 | 14 | 15 | 17 | 18 | _+19=>exact fun hq=>hq⟩
  ·have hW:=hX;have d1:_=_:=rgsDe D 1;have d4:_=_:=rgsDe D 4;have d7:_=_:=rgsDe D 7;have d9:_=_:=rgsDe D 9;have d12:_=_:=rgsDe D 12;have bN:_=_:=rgsDe D 15;have aA:=bl1 w1 (.cells #[.string ⟨#[112,97,114,116]⟩,.string nm,.string s1,.string s2,.string s3,.string s4,.string s5] 9);refine Rgs.grow rfl (Reg.wanted_free rfl) (.slice (some ⟨w1.heap.size,0,none⟩) (7:Nat) 7) (w1.alloc (.cells #[.string ⟨#[112,97,114,116]⟩,.string nm,.string s1,.string s2,.string s3,.string s4,.string s5] 9)) (by have c:=Reg.consts a;generalize a.eval=ρ at *;simp[execOp,go_sem,c.1,c.2,d1,d4,d7,d9,d12,bN]) ⟨w1.heap.size,rfl,D7 w1 9 1 w8.heap.size #[.string ⟨#[112,97,114,116]⟩,.string nm,.string s1,.string s2,.string s3,.string s4,.string s5] 7 rfl hW.size (by unfold maxLen;omega)⟩ (hW.trans (aA.mono hW.size)) (fun jq vq _ hq=>by
    revert hq
    match jq with
    | 16=>exact fun⟨gq,e1,e2⟩=>⟨gq,e1,OwnV.below e2 rfl aA⟩
    | 0 | 1 | 2 | 3 | 4 | 5 | 6 | 7 | 8 | 9 | 10 | 11 | 12 | 13 | 14 | 15 | 17 | 18 | _+19=>exact fun hq=>hq)
  ·have hW:=hX;obtain⟨gl,dl,ho⟩:=rgsDe D 16;refine Ei 33 #[.slice (some ⟨gl,0,none⟩) (7:Nat) 7] ?_;refine(bC.o w1 gl ho).mono ?_;rintro e w5⟨rfl,aA⟩;exact⟨_,rfl,rfl,(hW.trans (aA.mono hW.size)),fun jq vq _ hq=>by
    revert hq
    match jq with
    | 16=>exact fun⟨gq,e1,e2⟩=>⟨gq,e1,OwnV.below e2 rfl aA⟩
    | 0 | 1 | 2 | 3 | 4 | 5 | 6 | 7 | 8 | 9 | 10 | 11 | 12 | 13 | 14 | 15 | 17 | 18 | _+19=>exact fun hq=>hq⟩
  have hW:=hX;have bQ:_=_:=rgsDe D 17;exact Dw hW
 intro a w4 live hs hd E D Hl hX;have e2:a.eval (.tmp 2)=.string s6:=by
  obtain⟨v,hv,he⟩:=D 18 _ rfl;exact(he 2 rfl).trans hv
 rw[Rgs.act_ws a _ _ hs hd E [3,4,5,6,7,8,9,10,11,12,13,14,15,16,17,18,19,20,2] (by kernel_rfl)];simp only[List.foldl,Bg,Bv,Bp,e2];have bO:=hid hX;clear E D Hl hX e2;generalize a.eval=ρ;clear a hs hd;go_wp2;go_ret;exact Ans.mk (congrArg Value.string bP.o.symm) (aJ.o.trans (bO.o.mono aJ.o.size))
