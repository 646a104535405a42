/- TextNumbers: package text prints and reads as the document says, on forty tapes and texts near them. -/
import Derived.Test.YtfmndmhjjbeokaaGreatDoorLow42
import Derived.Test.YtfmndmhjjbeokaaGreatDoorTie
import Derived.Test.YtfmndmhjjbeokaaGreatDoorCards
set_option maxHeartbeats 16000000
set_option maxRecDepth 100000
set_option linter.unusedSimpArgs false
set_option linter.unusedVariables false
namespace Go.Proofs.YtfmndmhjjbeokaaGreatDoor.textNumbers
open Go.ChangeShapes Go.WideShapes Go.ChangeAt Go.RowKit Tab Txt
theorem right_of(y:Cf)(w:World)(h:CfR w y)(hr:RiX y):Calls Tryz.prog 30 #[cfv y] w (Ans (.int .i64 0) w):=by
 have h1:=Jp y.A1 y.A2 y.A3 y.n1 y.n2 y.n3 y.c1 y.c2 y.c3 y.P y.C y.T w h.pp h.ch h.tb (fun x hx=>(h.pt x hx).1) h.tt h.k1;have e:(D5 y.P y.C y.T).1=0:=congrArg Prod.fst hr.ok;rw[e] at h1;exact h1
theorem rright_of(y:Cf)(w:World)(h:CfR w y)(hr:RiX y):Calls Tryz.prog 27 #[cfv y] w (Ans (.int .i64 0) w):=by
 have h1:=Kh y.A1 y.A2 y.A3 y.n1 y.n2 y.n3 y.c1 y.c2 y.c3 y.P y.C y.T w h.pp h.ch h.tb (fun x hx=>(h.pt x hx).1) h.tt;have e:(D5 y.P y.C y.T).1=0:=congrArg Prod.fst hr.ok;rw[e] at h1;exact h1
theorem nodeT_few{x:Nd}{k:F}(aA:(F.cons x k .nil).ok)(hn:∀ y∈x::k.flat,y.n<=4)(hd:k.dep<=3):(Gq x k).length<=8500:=by
 have r:=Ks aA hn hd;have h1:=Hh _ aA;have aB:(F.cons x k .nil).flat=x::k.flat:=by simp[F.flat]
 have h:=I8 (nm:=nmP num6) (Ip Lf) (F.cons x k .nil) (fun y hy=>by
  have h2:=fine_one (h1 y hy);have h3:=hn y (by rw[aB] at hy;exact hy);exact⟨by omega,by omega⟩) false
 rw[Ky] at h;simp only[F.sz] at h;unfold Gq;omega
def LS13:List (List UInt8):=[[],[119],[119,48],[119,48,58],[119,48,58,49],[119,48,48,58,49],[119,48,58,48,49],[119,55,58,49],[119,48,58,49,32],[105],[105,48],[105,45,49],[105,49,44,105,49],[115,40,105,49,41],[115,40,105,49,44,41],[115,40,44,105,49,41],[115,40,105,49],[115,32,105,49,41],[114,40,105,49,41],[114,50,105,49],[114,50,40,105,49,41],[114,50,40,105,49,44,105,49,41],[114,48,40,105,49,41],[120,49],[105,49,48,57,57,53,49,49,54,50,55,55,55,53],[105,49,48,57,57,53,49,49,54,50,55,55,55,54],[119,97,58,49],[119,49,48,57,57,53,49,49,54,50,55,55,55,54,58,49]]
theorem sc_map(l:List (List UInt8)):l.flatMap sc=l.map fun x=>(.string (bsOf x):Value):=by
 induction l with
 | nil=>rfl
 | cons x l ih=>rw[Cu,ih];rfl
theorem LS13_few:∀ s∈LS13,s.length<=100:=by decide
def MT13:List UInt8:=[48,32,44,58,40,45,115,120,10,57]
theorem MT13_at(i k:Nat):∃ b:UInt8,MT13[(i+k) % 10]? = some b:=⟨_,Am (show (i+k) % 10 < MT13.length from Nat.mod_lt _ (by decide))⟩
theorem walk  (w:World)  (ht:Hr w) :
  Calls Tryz.prog 3 #[] w (Ans (.bool true) w):=by
 have HT:=hid ht;have aZ:=hid fun(l:List UInt8) (V:World) (h:l.length<=1048576)=>Q8 l V h;have bK:=hid fun(l:List UInt8) (V:World) (h:l.length<=1048576)=>Qt l V h;clear ht;go_in;go_wp2;go_loopw [1,2,3,4,5,6,7] (fun s _ _ _ _ _ _ wr=>∃ k:Nat,k<=40/\s=.int .i64 k/\Below w.heap.size w wr) (fun s _ _ _ _ _ _ _=>40 - (intOf s).toNat)
 case atStart=>exact⟨0,by omega,rfl,Aj _ _⟩
 obtain⟨k,hk,rfl,hb⟩:=hrel;by_cases eR:k < 40
 ·have eQ:(k:Int) < 40:=by omega
  have HB:=hid hb;have eI:=hid (Ua k wr (by omega));clear hb;go_wp2_with fail;refine eI.o.mono ?_;rintro e w1⟨A,n,c,f,rfl,hf,hn,eD⟩;have cF:=hid (HB.o.trans (eD.mono HB.o.size));have eM:=hid (Xr w1.heap.size w1.heap.size A n c f (by omega) 0 _ (Nq A n c f w1 hf));have fA:Hd (w.heap.size<=w1.heap.size):=hid cF.o.size;clear hf eD eI HB;go_wp2_with fail;refine eM.o.mono ?_;rintro e w2⟨y,Fs,eY,rfl,hx,T1,G1⟩;have aL:=bl1 w2 (.cells #[.slice y.A1 y.n1 y.c1,.slice y.A2 y.n2 y.c2,.slice y.A3 y.n3 y.c3] 31);have bW:=G9 w2 (.slice y.A1 y.n1 y.c1) (.slice y.A2 y.n2 y.c2) (.slice y.A3 y.n3 y.c3) 31;have dB:=(Oi G1).trans (aL.mono (Oi G1).size);have dH:=T1.below aL T1.lt;have aO:w2.heap.size≠w1.heap.size:=by have:=T1.lt;omega
  have cE:=hid (cF.o.trans (dB.mono cF.o.size));clear eM G1;unfold cfv;go_upto_region 6 with fail;generalize w2.alloc (.cells #[.slice y.A1 y.n1 y.c1,.slice y.A2 y.n2 y.c2,.slice y.A3 y.n3 y.c3] 31)=W2 at aL bW dB dH cE |-;obtain⟨m0,m1,m2⟩:=bW.three;have HX:=hid hx;have bX:=hid (hx.rd.on aL);have bY:=hid bW;have dK:=hid dH;have aJ:=hid (Qcu y Fs W2 bX.o hx.ri hx.sm hx.fl hx.ff hx.mx hx.pp (fun V hv=>rright_of y V (bX.o.on hv) hx.ri));have cC:=hid hx.len;generalize w2.heap.size=g4 at aO bY m0 m1 m2 |-;obtain⟨TX,dE⟩:∃ T,T=textT (linesT y.P y.C Fs):=⟨_,rfl⟩;rw[<- dE] at aJ cC;have eH:=hid dE;clear aL bW dB dH T1 hx dE cF;unfold cfv at aJ;go_wp2_with fail;refine aJ.o.mono ?_;rintro e w3⟨rfl,dA⟩;have bO:=hid dA;have bZ:=hid (dK.o.below dA dK.o.lt);have bJ:Hd (Calls Tryz.prog 10 #[.pointer (some ⟨w1.heap.size,0,none⟩),.int .i64 3,.int .i64 3] w3 (Qdb w1.heap.size w1.heap.size A n c f 3 (5 ^ (3+1)) 3 w3)):=hid (Qcn w1.heap.size w1.heap.size A n c f (by omega) 3 (by omega) (by omega) 3 eY w3 (by omega) bZ.o);clear dA aJ m0 m1 m2;go_wp2_with fail;refine bJ.o.mono ?_;rintro e w6⟨xl,kl,Al,nl,cl,fH,rfl,aM,aK,bP,bV,hq,T6,G6⟩;have bR:∀ z∈xl::kl.flat,z.n<=4:=fun z hz=>(hq z hz).2.2;have eW:=Ks aM bR bV;have bE:=aK.len;simp only[Ad,F.flat_length] at bE;have eO:nl<=85:=by omega
  have aQ:=hid (CfR.tape bZ.o T6 G6 (bX.o.on bO.o));have eC:Below w1.heap.size w3 w6:=(Aj _ _).grown G6 (Nat.le_of_lt bZ.o.lt) fun k hk=>by injection hk with hk;omega
  have bG:Below w.heap.size w w3:=cE.o.trans (bO.o.mono cE.o.size);have dT:w.heap.size<=w1.heap.size:=fA.o;have aX:Below w.heap.size w w6:=bG.trans (eC.mono dT);have bI:=hid ((bY.o.on bO.o).keep (G6.block g4 (bY.o.on bO.o).lt fun e=>aO (by injection e)) G6.size);have bL:=hid aK.rdn;have bN:=hid aK.cap;have bC:=hid aX;have cK:=iz (n:=nl) aM bR bV (by omega);have dN:=hid fun W (hb:Below w6.heap.size w6 W)=>Nr Al nl cl xl kl W (bL.o.on hb) bN.o (by omega) aM (by
   have h:=Ij Al nl cl _ xl kl W (bL.o.on hb) bN.o (by omega) aM rfl;rw[cK] at h;exact h) (HT.o.on (bC.o.trans (hb.mono bC.o.size)))
  have cA:=hid fun W (hb:Below w6.heap.size w6 W)=>Uu Al nl cl xl kl W (bL.o.on hb) bN.o (by omega) aM (by
   have h:=Jb Al nl cl _ xl kl W (bL.o.on hb) bN.o (by omega) aM rfl;rw[cK] at h;exact h)
  have dI:=hid fun W=>bK.o (Gq xl kl) W (by have:=nodeT_few aM bR bV;omega);have aJ:=hid (Ud y Fs w6 aQ.o HX.o.ri HX.o.sm HX.o.fl HX.o.ff HX.o.mx HX.o.pp (fun V hv=>right_of y V (aQ.o.on hv) HX.o.ri) (HT.o.on bC.o));rw[<- eH.o] at aJ;have dM:=hid fun W=>aZ.o TX W (by have:=cC.o;omega);obtain⟨sl,bD⟩:∃ s,s=bsOf (Gq xl kl):=⟨_,rfl⟩;rw[<- bD] at dN cA dI;obtain⟨s0,bQ⟩:∃ s,s=bsOf TX:=⟨_,rfl⟩;rw[<- bQ] at aJ dM |-;have eJ:=hid bQ;have cH:s0.size=TX.length:=by rw[bQ];exact Gl TX
  obtain⟨n0,bS⟩:∃ n,n=TX.length:=⟨_,rfl⟩;rw[<- bS] at cH;have bM:=hid bS;have eP:n0<=7000:=by rw[bS];exact cC.o
  obtain⟨m0,m1,m2⟩:=bI.o.three;clear aM aK bP bV hq bR eW bE T6 G6 eC aX cK bD bJ bX aQ bY HX dK bZ cE bO aO bQ bS bG dT eH cC bL bN eO;unfold cfv at aJ;go_wp2_with fail;refine aJ.o.mono ?_;rintro e w7⟨rfl,eB⟩;have aU:=hid eB;clear eB aJ m0 m1 m2;go_wp2_with fail;refine(dM.o w7).mono ?_;rintro e w8⟨rfl,dZ⟩;have aT:=hid (aU.o.trans (dZ.mono aU.o.size));clear dZ aU dM;go_wp2_with fail;refine(dN.o w8 aT.o).mono ?_;rintro e w9⟨rfl,aG⟩;have aD:=hid (aT.o.trans (aG.mono aT.o.size));clear aG aT dN;go_wp2_with fail;refine(cA.o w9 aD.o).mono ?_;rintro e aV⟨rfl,aA⟩;have aB:=hid (aD.o.trans (aA.mono aD.o.size));clear aA aD;go_wp2_with fail;refine(cA.o aV aB.o).mono ?_;rintro e cG⟨rfl,aI⟩;have aF:=hid (aB.o.trans (aI.mono aB.o.size));clear aI aB cA;go_wp2_with fail;refine(dI.o cG).mono ?_;rintro e dS⟨rfl,aH⟩;have aE:=hid (bC.o.trans ((aF.o.trans (aH.mono aF.o.size)).mono bC.o.size));clear aH aF dI bC bI;go_wp2;go_loopw [6,7] (fun s _ wx=>∃ i:Nat,s=.int .i64 i/\i<=7003/\Below w.heap.size w wx) (fun s _ _=>7003 - (intOf s).toNat)
  case atStart=>exact⟨0,rfl,by omega,aE.o⟩
  obtain⟨i,rfl,fE,hb⟩:=hrel;have aC:=hid hb;clear hb aE;by_cases cP:i < n0
  ·have aP:(i:Int) < (n0:Int):=by omega
   obtain⟨tb,dU⟩:=MT13_at i k;have eU:∀ W,(Instr.index 9 (.string ⟨#[48,32,44,58,40,45,115,120,10,57]⟩) (.int .i64 (((i:Int)+(k:Int)) % 10))).run Tryz.prog W=.ok (.int .u8 (tb.toNat:Int)) W:=by
    have e:((i:Int)+(k:Int)) % 10=(((i+k) % 10:Nat):Int):=by omega
    rw[e];exact sidx (l:=MT13) dU
   have cD:Hd (i < TX.length):=hid (by rw[<- bM.o];exact cP);have bU:s0.extract 0 i=bsOf ((TX.take i).drop 0):=by rw[eJ.o];exact bs_ext TX 0 i
   have bB:=hid fun W=>aZ.o ((TX.take i).drop 0) W (by have:=cD.o;have:=bM.o;simp;omega);have bA:=hid fun W=>aZ.o (TX.set i tb) W (by have:=bM.o;simp;omega);clear dU;go_upto_region 13 with fail;refine wp_region_lit ?_;go_wp2_with (refine Pa rfl (.tmp 56) rfl TX s0 rfl eJ.o n0 bM.o.symm fun cb wb dY cX dW eT=>?_;have bF:=cX i cD.o;have cR:=dW i cD.o);refine(bB.o _).mono ?_;rintro e wp⟨rfl,cY⟩;have aX:Below w.heap.size w (wb.setCell ⟨wr.heap.size,i,none⟩ (.int .u8 (tb.toNat:Int))):=(aC.o.trans (dY.mono aC.o.size)).setCell (p:=⟨wr.heap.size,i,none⟩) aC.o.size _;have dQ:=hid (aX.trans (cY.mono aX.size));have cZ:=(ByF.set cX i cD.o tb).on cY;have bD:(TX.set i tb).length=n0:=by rw[List.length_set];exact bM.o.symm
   clear aX cY dY cX dW bF cR eU bU bB eT;generalize wr.heap.size=gb at cZ |-;go_wp2_with (refine Qs (by rfl) (.tmp 72) rfl gb n0 cb (TX.set i tb) rfl bD cZ ?_);refine(bA.o wp).mono ?_;rintro e wq⟨rfl,dX⟩;have fB:=hid (dQ.o.trans (dX.mono dQ.o.size));clear dX cZ bD bA dQ;go_wp2;go_roundw
   case rel=>exact⟨i+3,by go_num,by omega,fB.o⟩
   simp[intOf];omega
  have aP:¬ (i:Int) < (n0:Int):=by omega
  go_wp2;go_roundw
  case rel=>exact⟨k+1,by omega,by go_num,aC.o⟩
  simp[intOf];omega
 have eV:¬ (k:Int) < 40:=by omega
 have HB:=hid hb;clear hb eR hk;have aN:=rdV_new wr #[.string ⟨#[]⟩,.string ⟨#[119]⟩,.string ⟨#[119,48]⟩,.string ⟨#[119,48,58]⟩,.string ⟨#[119,48,58,49]⟩,.string ⟨#[119,48,48,58,49]⟩,.string ⟨#[119,48,58,48,49]⟩,.string ⟨#[119,55,58,49]⟩,.string ⟨#[119,48,58,49,32]⟩,.string ⟨#[105]⟩,.string ⟨#[105,48]⟩,.string ⟨#[105,45,49]⟩,.string ⟨#[105,49,44,105,49]⟩,.string ⟨#[115,40,105,49,41]⟩,.string ⟨#[115,40,105,49,44,41]⟩,.string ⟨#[115,40,44,105,49,41]⟩,.string ⟨#[115,40,105,49]⟩,.string ⟨#[115,32,105,49,41]⟩,.string ⟨#[114,40,105,49,41]⟩,.string ⟨#[114,50,105,49]⟩,.string ⟨#[114,50,40,105,49,41]⟩,.string ⟨#[114,50,40,105,49,44,105,49,41]⟩,.string ⟨#[114,48,40,105,49,41]⟩,.string ⟨#[120,49]⟩,.string ⟨#[105,49,48,57,57,53,49,49,54,50,55,55,55,53]⟩,.string ⟨#[105,49,48,57,57,53,49,49,54,50,55,55,55,54]⟩,.string ⟨#[119,97,58,49]⟩,.string ⟨#[119,49,48,57,57,53,49,49,54,50,55,55,55,54,58,49]⟩] 9 (LS13.flatMap sc) rfl;have u7:=bl1 wr (.cells #[.string ⟨#[]⟩,.string ⟨#[119]⟩,.string ⟨#[119,48]⟩,.string ⟨#[119,48,58]⟩,.string ⟨#[119,48,58,49]⟩,.string ⟨#[119,48,48,58,49]⟩,.string ⟨#[119,48,58,48,49]⟩,.string ⟨#[119,55,58,49]⟩,.string ⟨#[119,48,58,49,32]⟩,.string ⟨#[105]⟩,.string ⟨#[105,48]⟩,.string ⟨#[105,45,49]⟩,.string ⟨#[105,49,44,105,49]⟩,.string ⟨#[115,40,105,49,41]⟩,.string ⟨#[115,40,105,49,44,41]⟩,.string ⟨#[115,40,44,105,49,41]⟩,.string ⟨#[115,40,105,49]⟩,.string ⟨#[115,32,105,49,41]⟩,.string ⟨#[114,40,105,49,41]⟩,.string ⟨#[114,50,105,49]⟩,.string ⟨#[114,50,40,105,49,41]⟩,.string ⟨#[114,50,40,105,49,44,105,49,41]⟩,.string ⟨#[114,48,40,105,49,41]⟩,.string ⟨#[120,49]⟩,.string ⟨#[105,49,48,57,57,53,49,49,54,50,55,55,55,53]⟩,.string ⟨#[105,49,48,57,57,53,49,49,54,50,55,55,55,54]⟩,.string ⟨#[119,97,58,49]⟩,.string ⟨#[119,49,48,57,57,53,49,49,54,50,55,55,55,54,58,49]⟩] 9);obtain⟨W7,dD⟩:∃ W,W=wr.alloc (.cells #[.string ⟨#[]⟩,.string ⟨#[119]⟩,.string ⟨#[119,48]⟩,.string ⟨#[119,48,58]⟩,.string ⟨#[119,48,58,49]⟩,.string ⟨#[119,48,48,58,49]⟩,.string ⟨#[119,48,58,48,49]⟩,.string ⟨#[119,55,58,49]⟩,.string ⟨#[119,48,58,49,32]⟩,.string ⟨#[105]⟩,.string ⟨#[105,48]⟩,.string ⟨#[105,45,49]⟩,.string ⟨#[105,49,44,105,49]⟩,.string ⟨#[115,40,105,49,41]⟩,.string ⟨#[115,40,105,49,44,41]⟩,.string ⟨#[115,40,44,105,49,41]⟩,.string ⟨#[115,40,105,49]⟩,.string ⟨#[115,32,105,49,41]⟩,.string ⟨#[114,40,105,49,41]⟩,.string ⟨#[114,50,105,49]⟩,.string ⟨#[114,50,40,105,49,41]⟩,.string ⟨#[114,50,40,105,49,44,105,49,41]⟩,.string ⟨#[114,48,40,105,49,41]⟩,.string ⟨#[120,49]⟩,.string ⟨#[105,49,48,57,57,53,49,49,54,50,55,55,55,53]⟩,.string ⟨#[105,49,48,57,57,53,49,49,54,50,55,55,55,54]⟩,.string ⟨#[119,97,58,49]⟩,.string ⟨#[119,49,48,57,57,53,49,49,54,50,55,55,55,54,58,49]⟩] 9):=⟨_,rfl⟩;rw[<- dD] at aN u7;have eG:=hid dD;have dL:=hid aN;have aU:=hid (HB.o.trans (u7.mono HB.o.size));clear aN u7 dD HB;go_wp2_with fail;rw[<- eG.o];clear eG;generalize wr.heap.size=gl at dL |-;go_loopw [9,79] (fun _ s wx=>∃ i:Nat,i<=28/\s=.int .i64 i/\Below W7.heap.size W7 wx) (fun _ s _=>28 - (intOf s).toNat)
 case atStart=>exact⟨0,by omega,rfl,Aj _ _⟩
 obtain⟨i,hi,rfl,hb⟩:=hrel;by_cases dV:i < 28
 ·have eS:(i:Int) < 28:=by omega
  have hr:=(dL.o.below hb).more hb.size;obtain⟨ad,e,eX,hc⟩:=hr (by show 0 < (LS13.flatMap sc).length;decide);injection e with e;subst e;obtain⟨z,hz⟩:∃ z,LS13[i]? = some z:=⟨_,Am (show i < LS13.length from dV)⟩;have c0:=hc i (.string (bsOf z)) (by rw[sc_map,Bm,hz];rfl);have eE:(⟨gl,0,none⟩:Addr).add i=⟨gl,i,none⟩:=Jh gl i;rw[eE] at c0;clear eE;have eN:=LS13_few z (An hz);have aC:=hid hb;obtain⟨s1,cJ⟩:∃ s,s=bsOf ([115,40]++z):=⟨_,rfl⟩;obtain⟨s2,cI⟩:∃ s,s=bsOf (([115,40]++z)++[44,105,49,41]):=⟨_,rfl⟩;have bH:∀ W,(Op.stringOp .add ⟨#[115,40]⟩ (bsOf z)).run Tryz.prog W=.ok (.string s1) W:=by
   rw[cJ];exact sadd [115,40] z (by simp only[Ad,Bh];omega)
  have eF:∀ W,(Op.stringOp .add s1 ⟨#[44,105,49,41]⟩).run Tryz.prog W=.ok (.string s2) W:=by
   rw[cJ,cI];exact sadd _ [44,105,49,41] (by simp only[Aa,Ad,Bh];omega)
  have dP:=hid (bK.o z wr (by omega));have dO:=hid fun W=>bK.o (([115,40]++z)++[44,105,49,41]) W (by simp only[Aa,Ad,Bh];omega);rw[<- cI] at dO;generalize bsOf z=zv at c0 bH dP;clear hc hr hz eX hb eN cJ cI;go_wp2_with fail;refine dP.o.mono ?_;rintro e w9⟨rfl,aG⟩;have aD:=hid (aC.o.trans (aG.mono aC.o.size));clear aG c0 dP;go_wp2_with fail;refine(dO.o w9).mono ?_;rintro e aV⟨rfl,aA⟩;have aB:=hid (aD.o.trans (aA.mono aD.o.size));clear aA dO bH eF;go_wp2;go_roundw
  case rel=>exact⟨i+1,by omega,by go_num,aB.o⟩
  simp[intOf];omega
 have eV:¬ (i:Int) < 28:=by omega
 have aT:=hid (aU.o.trans (hb.mono aU.o.size));clear hb dL aU dV hi;go_wp2;go_loopw [10,11,12] (fun p q s wx=>∃(i:Nat) (D L:List UInt8),i<=130/\s=.int .i64 i/\p=.string (bsOf D)/\q=.string (bsOf L)/\D.length<=2+4*i/\L.length<=2+3*i/\Below w.heap.size w wx) (fun _ _ s _=>130 - (intOf s).toNat)
 case atStart=>exact⟨0,[105,49],[105,49],by omega,rfl,rfl,rfl,by decide,by decide,aT.o⟩
 obtain⟨i,D,L,hi,rfl,rfl,rfl,hD,hL,hb⟩:=hrel;have aC:=hid hb;have HD:=hid hD;have HL:=hid hL;clear hb hD hL aT;obtain⟨l1,cO⟩:∃ s,s=bsOf ([115,40]++L):=⟨_,rfl⟩;obtain⟨l2,cM⟩:∃ s,s=bsOf (([115,40]++L)++[41]):=⟨_,rfl⟩;have bH:∀ W,(Op.stringOp .add ⟨#[115,40]⟩ (bsOf L)).run Tryz.prog W=.ok (.string l1) W:=by
  rw[cO];exact sadd [115,40] L (by have:=HL.o;simp only[Ad,Bh];omega)
 have eF:∀ W,(Op.stringOp .add l1 ⟨#[41]⟩).run Tryz.prog W=.ok (.string l2) W:=by
  rw[cO,cM];exact sadd _ [41] (by have:=HL.o;simp only[Aa,Ad,Bh];omega)
 have aR:=hid fun W=>bK.o (([115,40]++L)++[41]) W (by have:=HL.o;simp only[Aa,Ad,Bh];omega);rw[<- cM] at aR;clear cO cM;by_cases cP:i < 130
 ·have aP:(i:Int) < 130:=by omega
  obtain⟨d1,cV⟩:∃ s,s=bsOf ([114,49,40]++D):=⟨_,rfl⟩;obtain⟨d2,cU⟩:∃ s,s=bsOf (([114,49,40]++D)++[41]):=⟨_,rfl⟩;obtain⟨l3,cL⟩:∃ s,s=bsOf (L++[44,105,49]):=⟨_,rfl⟩;have dG:∀ W,(Op.stringOp .add ⟨#[114,49,40]⟩ (bsOf D)).run Tryz.prog W=.ok (.string d1) W:=by
   rw[cV];exact sadd [114,49,40] D (by have:=HD.o;simp only[Ad,Bh];omega)
  have fI:∀ W,(Op.stringOp .add d1 ⟨#[41]⟩).run Tryz.prog W=.ok (.string d2) W:=by
   rw[cV,cU];exact sadd _ [41] (by have:=HD.o;simp only[Aa,Ad,Bh];omega)
  have eZ:∀ W,(Op.stringOp .add (bsOf L) ⟨#[44,105,49]⟩).run Tryz.prog W=.ok (.string l3) W:=by
   rw[cL];exact sadd L [44,105,49] (by have:=HL.o;simp only[Ad,Bh];omega)
  have dJ:=hid fun W=>bK.o D W (by have:=HD.o;omega);have aY:Hd (∀ wx,Below w.heap.size w wx->∃(i':Nat) (D' L':List UInt8),i'<=130/\Value.int .i64 ((i:Int)+1)=.int .i64 (i':Int)/\Value.string d2=.string (bsOf D')/\Value.string l3=.string (bsOf L')/\D'.length<=2+4*i'/\L'.length<=2+3*i'/\Below w.heap.size w wx):=hid fun wx aL=>⟨i+1,_,_,by omega,by rw[Int.natCast_add];rfl,by rw[cU],by rw[cL],by have:=HD.o;simp only[Aa,Ad,Bh];omega,by have:=HL.o;simp only[Aa,Ad,Bh];omega,aL⟩;clear cV cU cL;generalize bsOf D=dv at dG dJ;generalize bsOf L=lv at bH eZ;obtain⟨m,hm⟩:∃ m:Int,(i:Int) % 9=m:=⟨_,rfl⟩;obtain⟨q9,fD⟩:∃ q,(m == 0)=q:=⟨_,rfl⟩;by_cases fG:i < 18
  ·have dF:(i:Int) < 18:=by omega
   go_wp2_with fail;refine(dJ.o wr).mono ?_;rintro e w9⟨rfl,aG⟩;have aD:=hid (aC.o.trans (aG.mono aC.o.size));clear aG dJ;cases q9 with
   | true =>
    go_wp2_with fail;refine(aR.o w9).mono ?_;rintro e aV⟨rfl,aA⟩;have aB:=hid (aD.o.trans (aA.mono aD.o.size));clear aA aR;go_wp2;go_roundw
    case rel=>exact aY.o _ aB.o
    show 130 - ((i:Int)+1).toNat < 130 - ((i:Int)).toNat;omega
   | false =>
    go_wp2;go_roundw
    case rel=>exact aY.o _ aD.o
    show 130 - ((i:Int)+1).toNat < 130 - ((i:Int)).toNat;omega
  have dF:¬ (i:Int) < 18:=by omega
  cases q9 with
  | true =>
   go_wp2_with fail;refine(aR.o wr).mono ?_;rintro e aV⟨rfl,aA⟩;have aB:=hid (aC.o.trans (aA.mono aC.o.size));clear aA aR;go_wp2;go_roundw
   case rel=>exact aY.o _ aB.o
   show 130 - ((i:Int)+1).toNat < 130 - ((i:Int)).toNat;omega
  | false =>
   go_wp2;go_roundw
   case rel=>exact aY.o _ aC.o
   show 130 - ((i:Int)+1).toNat < 130 - ((i:Int)).toNat;omega
 have aP:¬ (i:Int) < 130:=by omega
 generalize bsOf L=lv at bH;generalize bsOf D=dv;clear HD HL hi cP
 go_wp2;go_loopw [13] (fun p wx=>∃ G:List UInt8,p=.string (bsOf G)/\G.length<=16395/\Below w.heap.size w wx) (fun p _=>16396 - Z0 p)
 case atStart=>exact⟨[],rfl,by decide,aC.o⟩
 obtain⟨G,rfl,hG,hb⟩:=hrel;have dR:=hid hb;have HG:=hid hG;obtain⟨n,hn⟩:∃ n,n=G.length:=⟨_,rfl⟩;have bP:(bsOf G).size=n:=by rw[hn];exact Gl G
 have HN:=hid hn;clear hb hG hn aC;by_cases fF:n<=16384
 ·have cQ:(n:Int)<=16384:=by omega
  obtain⟨g1,bT⟩:∃ s,s=bsOf (G++[35,32,97,32,114,101,109,97,114,107,10]):=⟨_,rfl⟩;have dG:∀ W,(Op.stringOp .add (bsOf G) ⟨#[35,32,97,32,114,101,109,97,114,107,10]⟩).run Tryz.prog W=.ok (.string g1) W:=by
   rw[bT];exact sadd G [35,32,97,32,114,101,109,97,114,107,10] (by have:=HG.o;simp only[Ad,Bh];omega)
  have aY:Hd (∀ wx,Below w.heap.size w wx->∃ G':List UInt8,Value.string g1=.string (bsOf G')/\G'.length<=16395/\Below w.heap.size w wx):=hid fun wx aL=>⟨_,by rw[bT],by have:=HN.o;simp only[Aa,Ad,Bh];omega,aL⟩;have eL:Hd (16396 - Z0 (.string g1) < 16396 - Z0 (.string (bsOf G))):=hid (by
   have e1:Z0 (.string g1)=G.length+11:=by
    show g1.size=_;rw[bT,Gl,Aa];rfl
   have e2:Z0 (.string (bsOf G))=G.length:=Gl G;have:=HN.o;omega)
  clear bT;generalize bsOf G=gv at bP dG eL |-;go_wp2;go_roundw
  case rel=>exact aY.o _ dR.o
  exact eL.o
 have cQ:¬ (n:Int)<=16384:=by omega
 have bU:(bsOf G).extract 0 16384=bsOf ((G.take 16384).drop 0):=bs_ext G 0 16384;have bB:=hid fun W=>aZ.o G W (by have:=HG.o;omega);have bA:=hid fun W=>aZ.o ((G.take 16384).drop 0) W (by have:=HG.o;simp;omega);have eK:Hd (∀ W,Calls Tryz.prog 12 #[.string ⟨#[112,97,114,116,32,97,32,48,32,48,32,45,32,48,48,48,48,48,32,48,58,48,10,112,97,114,116,32,97,32,48,32,48,32,45,32,48,48,48,48,48,32,48,58,48,10,116,97,98,108,101,32,119,97,58,49]⟩] W (Ans (.bool true) W)):=hid fun W=>aZ.o [112,97,114,116,32,97,32,48,32,48,32,45,32,48,48,48,48,48,32,48,58,48,10,112,97,114,116,32,97,32,48,32,48,32,45,32,48,48,48,48,48,32,48,58,48,10,116,97,98,108,101,32,119,97,58,49] W (by decide);generalize bsOf ((G.take 16384).drop 0)=g2 at bU bA;generalize bsOf G=gv at bP bU bB |-;clear HG HN;go_wp2_with fail;refine(aR.o wr).mono ?_;rintro e w9⟨rfl,aG⟩;have aD:=hid (dR.o.trans (aG.mono dR.o.size));clear aG aR;go_wp2_with fail;refine(bB.o w9).mono ?_;rintro e aV⟨rfl,aA⟩;have aB:=hid (aD.o.trans (aA.mono aD.o.size));clear aA bB;go_wp2_with fail;refine(bA.o aV).mono ?_;rintro e cG⟨rfl,aI⟩;have aF:=hid (aB.o.trans (aI.mono aB.o.size));clear aI bA;go_wp2_with fail;refine(eK.o cG).mono ?_;rintro e dS⟨rfl,aH⟩;have aE:=hid (aF.o.trans (aH.mono aF.o.size));clear aH eK;go_wp2_with fail;refine(S6 dS (HT.o.on aE.o)).mono ?_;rintro e fC⟨rfl,dC⟩;go_wp2;go_ret;exact Ans.mk rfl (aE.o.trans (dC.mono aE.o.size))
theorem lifted(os:Os)(aA:os.Started)(H:Type)(enc:TypeId×Value->H):
  ReturnsInHanded {} Tryz.checked os 3 .any (fun w args=>(Rows.textNumbersSpec.pre enc Tryz.prog Tryz.f3 [] false w args/\laidMetH Tryz.prog Of w)/\sizedMet enc Tryz.prog Tryz.f3 (OpenSpec.ofChange Rows.textNumbersSpec) false w args)
   (Rows.textNumbersSpec.post enc Tryz.prog Tryz.f3 false true false false):=by
 refine returnsInHanded_of_change_and (C:=Tryz.checked) (X:=fun w _=>laidMetH Tryz.prog Of w) (fun _ _ _ hh h=>h.of_heap hh) own aA (by kernel_rfl) Tryz.func3
  (ChangeSpec.witness_shaped (enc:=enc) (C:=Tryz.checked) (os:=os) (X:=fun w _=>laidMetH Tryz.prog Of w) false (World.doorLaid Tryz.prog 24 os) #[] 8 rfl (World.shaped_of_RefB (by kernel_rfl) (by kernel_rfl)) (by kernel_rfl) (by kernel_rfl) (by kernel_rfl) (dm os _)) ?_
 intro W base args ds gs aD aB hW aG aF hL _;have aC:∀(j:Nat) t v,Tryz.f3.params[j]? = some t->args[j]? = some v->Value.okWide Tryz.prog W .any base t v:=aB;have aH:=hW;obtain⟨p,q,aE,hV,rfl,aJ,aI⟩:=hW;have hA:DataW.TrodAll enc Tryz.prog W 0 (fun _=>true) true Tryz.f3.params.toList args.toList ds p:=aE;rw[Tryz.params3] at hA aC;obtain⟨rfl,rfl,rfl⟩:=trodAll_none hA;obtain⟨rfl,rfl⟩:=trodVars_none hV;clear aE aB;refine(walk  W  (Qu hL)).mono fun e W' ⟨he,bel⟩=>?_;subst he;exact⟨_,rfl,_,_,_,[],_,[],aH,trodAll_mk1 (shut_bool Tryz.underlying4 _),trodAll_mk0,rfl,bel.frame _,fun h=>by cases h⟩
theorem proved:Rows.TextNumbersSaid :=
 OpenClaim.holds_of_wide 3 Tryz.f3 rfl rfl rfl rfl rfl rfl rfl ⟨rfl,rfl,rfl,rfl,rfl⟩ rfl rfl rfl rfl rfl (by kernel_rfl) Tryz.func3 (by kernel_rfl)
  (Dk (by kernel_rfl)) (by unfold Func.isWrapper;first | (rw[if_pos (by decide +kernel)];kernel_rfl) | (rw[if_neg (by decide +kernel)];exact⟨rfl,rfl⟩))
  (fun os aA H enc _=>lifted os aA H enc)
theorem card:Rows.TextNumbersCardSaid :=
 Claim7.holds_tied_plain_at .later [] [.data,.data,.data] true Rows.textNumbersCard.stood.harness false
  proved (fun _ h=>by cases h) (by kernel_rfl) (fun _ h=>by cases h) textNumbers_row_tie rfl ⟨rfl,rfl⟩ (by kernel_rfl) (by kernel_rfl)
  (fun f fn hf aB=>by
   obtain rfl:f=3:=C7 ((show Tryz.prog.funcNamed Rows.textNumbersRow.func=some 3 by kernel_rfl).symm.trans hf) |>.symm
   obtain rfl:fn=Tryz.f3:=(C7 (Tryz.func3.symm.trans aB)).symm
   refine⟨by kernel_rfl,fun j t ht=>?_⟩
   have aA:(Tryz.f3.params.toList.all fun u=>!Tryz.prog.wantsStandIn u)=true:=by kernel_rfl
   have hm:t∈Tryz.f3.params.toList:=by simpa using Array.mem_of_getElem? ht
   have h1:=Ct.1 aA t hm
   show Tryz.prog.wantsStandIn t=false
   simpa using h1)
  (by kernel_rfl)
