import Derived.Test.YtfmndmhjjbeokaaGreatDoorLow40
import Derived.LoopTactic
set_option maxHeartbeats 16000000
set_option maxRecDepth 100000
set_option linter.unusedSimpArgs false
set_option linter.unusedVariables false
namespace Go.Proofs.YtfmndmhjjbeokaaGreatDoor
open Go.RowKit Tab Txt
theorem Xf(s:ByteArray)(w:World)(hs:s.size<=140737488351232):Calls Tryz.prog 89 #[.string s] w (Ans (.bool (nameF s)) w) :=
 (Pm s w hs).mono fun e w' ⟨h1,h2⟩=>⟨h1,h2▸Aj _ _⟩
theorem Qx(l m:List UInt8):((bsOf l).toList == (bsOf m).toList)=decide (l=m):=by
 rw[<- beq_toListBytes,eh,Bool.eq_iff_iff,Av,Av];exact⟨fun e=>Lr e,fun e=>by rw[e]⟩
theorem Hv{b:UInt8}:∀(s:List UInt8),∀ x∈splitF b s,x.length<=s.length
 | [],x,h=>by
  have:x=[]:=by simpa [splitF] using h
  rw[this]
  exact Cr _
 | c::s,x,h=>by
  rw[splitF_cons] at h
  have ih:=Hv (b:=b) s
  split at h
  ·rcases Ba.1 h with rfl | h
   ·exact Cr _
   ·have:=ih x h;simp;omega
  ·cases hs:splitF b s with
   | nil=>exact absurd hs (split_ne b s)
   | cons y l =>
    rw[hs] at h ih
    rcases Ba.1 h with rfl | h
    ·have:=ih y (by simp);simp;omega
    ·have:=ih x (by simp[h]);simp;omega
theorem Hw{b:UInt8}:∀(s:List UInt8),(splitF b s).length<=s.length+1
 | []=>by simp[splitF]
 | c::s=>by
  have ih:=Hw (b:=b) s
  rw[splitF_cons]
  split
  ·simp;omega
  ·cases hs:splitF b s with
   | nil=>exact absurd hs (split_ne b s)
   | cons y l=>rw[hs] at ih;simp at ih |-;omega
theorem OwnV.grewT{E E' s s' B B' n c:Nat}{w w':World}{A A0 A':Option Addr}{l l0:List Value}{n0 c0:Nat}(h:OwnV E s w B A n c l)(h0:OwnV E' s' w B' A0 n0 c0 l0)(hE:E≠E')(hg:Grew A0 A' w w'):OwnV E s w' B A n c l :=
 h.keep' fun k hk=>hg.gb.block k (h.obk_ge hk).2 fun e=>h.apart h0 hE k hk e.symm
theorem Rq{ops:Array Oper}{aA:List Oper}{o:Oper}{a:Act}{Q:Exit->Act->World->Prop}{w:World}(aB:o.guard=none)(v:Value)(hr:(execOp a.eval o).run Tryz.prog w=.ok (.value v) w)(hK:wpList Tryz.prog ops Q aA (a.put o.dst v) w):wpList Tryz.prog ops Q (o::aA) a w:=by
 refine wpList_plain aB fun K hk=>?_;unfold Oper.wp;rw[hr];exact hk _ _ hK
theorem jy(w:World):(isAgg 60).run Tryz.prog w=.ok true w:=by go_simp
theorem V9:∀ v∈([.string ⟨#[]⟩,.int .i64 0,.int .i64 0,.bool false,.bool false,.slice none 0 0,.int .i64 0,.int .i64 0,.int .i64 0,.int .i64 0,.int .i64 0]:List Value),v.oneCell'=true:=by
 intro v hv;simp only[Ba,Co,or_false] at hv;rcases hv with rfl | rfl | rfl | rfl | rfl | rfl | rfl | rfl | rfl | rfl | rfl <;> rfl
theorem Zp{l:List (List UInt8)}(h:l.length=2):∃ p q,l=[p,q]:=by
 match l,h with
 | [p,q],_=>exact⟨p,q,rfl⟩
theorem Um(AW:Option Addr)(nW cW:Nat)(W:List (List UInt8))(w:World)(hW:RdB sc w w.heap.size AW nW W)(iN:nW<=1048576)(hL:∀ x∈W,x.length<=1048576):
  Calls Tryz.prog 66 #[.slice AW nW cW] w (Qbh W w):=by
 have HW:=hid hW;have HL:=hid hL;have bX:=hW.len;have aI:=bl1 w (.cells #[.string ⟨#[]⟩,.int .i64 0,.int .i64 0,.bool false,.bool false,.slice none 0 0,.int .i64 0,.int .i64 0,.int .i64 0,.int .i64 0,.int .i64 0] 60);have aV:=D7 w 60 11 w.heap.size #[.string ⟨#[]⟩,.int .i64 0,.int .i64 0,.bool false,.bool false,.slice none 0 0,.int .i64 0,.int .i64 0,.int .i64 0,.int .i64 0,.int .i64 0] 1 rfl (Ag _) (by unfold maxLen;omega);clear hW hL;go_in;go_upto_region 1 with fail;generalize w.alloc (.cells #[.string ⟨#[]⟩,.int .i64 0,.int .i64 0,.bool false,.bool false,.slice none 0 0,.int .i64 0,.int .i64 0,.int .i64 0,.int .i64 0,.int .i64 0] 60)=w1 at aI aV |-;have cH:=hid aV;have aH:=hid aI;generalize fK:w.heap.size=gr at cH |-;have eX:=hid fK;clear aI aV fK;by_cases h6:nW=7
 ·subst h6;obtain⟨x0,x1,x2,x3,x4,x5,x6,rfl⟩:=Z5 bX;have cP:=HW.o.on aH.o;obtain⟨ad,_,rfl,iA,_,_,_⟩:=cP.at_ Fl (by omega) (show 0 < 7 by omega);have hc:∀(i:Nat) (x:List UInt8),0 < i->i < 7->[x0,x1,x2,x3,x4,x5,x6][i]? = some x->w1.cell? ⟨ad.block,ad.off+i,none⟩=some (.string (bsOf x)):=fun i x h0 hi hx=>by
   obtain⟨iD,y,hA,_,hy,c0,_⟩:=cP.at_ Fl (by omega) hi;obtain rfl:ad=iD:=by injection hA
   rw[hx] at hy;injection hy with hy;subst hy;have:=c0 _ rfl;rw[Cj] at this;have e:ad.add i=⟨ad.block,ad.off+i,none⟩:=by unfold Addr.add;rw[if_neg (by omega)]
   rwa [e] at this
  have HC:=hid fun V (hv:Below w1.heap.size w1 V) i x h0 hi hx=>(hv.cell (Bj _ _ (hc i x h0 hi hx))).trans (hc i x h0 hi hx);have bM:Hd (x1.length<=1048576/\x2.length<=1048576/\x3.length<=1048576/\x4.length<=1048576/\x5.length<=1048576/\x6.length<=1048576):=hid ⟨HL.o _ (by simp),HL.o _ (by simp),HL.o _ (by simp),HL.o _ (by simp),HL.o _ (by simp),HL.o _ (by simp)⟩;have c1:=hc 1 x1 (by omega) (by omega) rfl;have hU:Tryz.prog.built 60 [(0,.string (bsOf x1))]=some #[.string (bsOf x1),.int .i64 0,.int .i64 0,.bool false,.bool false,.slice none 0 0,.int .i64 0,.int .i64 0,.int .i64 0,.int .i64 0,.int .i64 0]:=by rfl
  have bZ:=bl1 w1 (.cells #[.string (bsOf x1),.int .i64 0,.int .i64 0,.bool false,.bool false,.slice none 0 0,.int .i64 0,.int .i64 0,.int .i64 0,.int .i64 0,.int .i64 0] 60);have hX:=D7 w1 60 11 w1.heap.size #[.string (bsOf x1),.int .i64 0,.int .i64 0,.bool false,.bool false,.slice none 0 0,.int .i64 0,.int .i64 0,.int .i64 0,.int .i64 0,.int .i64 0] 1 rfl (Ag _) (by unfold maxLen;omega);obtain⟨BB,fU⟩:∃ b,b=gr:=⟨_,rfl⟩;have hR:OwnV 60 11 w1 BB (some ⟨gr,0,none⟩) 1 1 [.string ⟨#[]⟩,.int .i64 0,.int .i64 0,.bool false,.bool false,.slice none 0 0,.int .i64 0,.int .i64 0,.int .i64 0,.int .i64 0,.int .i64 0]:=by rw[fU];exact cH.o
  have eM:=hR.below rfl bZ;have eV:Hd (gr < w1.heap.size):=hid (cH.o.obk_ge (b:=gr) rfl).2;clear hc cP iA bX HL fU hR cH HW;go_upto_region 4 with fail;clear c1 hU;obtain⟨W1,fM⟩:∃ v,v=w1:=⟨_,rfl⟩;generalize w1.alloc (.cells #[.string (bsOf x1),.int .i64 0,.int .i64 0,.bool false,.bool false,.slice none 0 0,.int .i64 0,.int .i64 0,.int .i64 0,.int .i64 0,.int .i64 0] 60)=w3 at bZ hX eM |-;rw[<- fM] at bZ hX aH HC eV |-;generalize cQ:W1.heap.size=gx at eV |-;rw[cQ] at hX;have hX:OwnV 60 11 w3 W1.heap.size (some ⟨gx,0,none⟩) 1 1 [.string (bsOf x1),.int .i64 0,.int .i64 0,.bool false,.bool false,.slice none 0 0,.int .i64 0,.int .i64 0,.int .i64 0,.int .i64 0,.int .i64 0]:=by rw[cQ];exact hX
  have bN:=hid (Nat.le_of_eq cQ);clear fM cQ;have gC:=hid hX;have gL:=hid eM;have dK:=hid bZ;clear hX eM bZ;have dG:=hid fun V=>Fx lim40 (Ag _) x2 V (by have:=bM.o;omega);have dF:=hid fun V=>Fx lim40 (Ag _) x3 V (by have:=bM.o;omega);obtain⟨V2,eJ⟩:∃ v,v=valF lim40 x2:=⟨_,rfl⟩;obtain⟨V3,eI⟩:∃ v,v=valF lim40 x3:=⟨_,rfl⟩;rw[<- eJ] at dG;rw[<- eI] at dF;obtain⟨a,b2⟩:=V2;obtain⟨b,b3⟩:=V3;dsimp only at dG dF;have dE:=hid (And.intro eJ eI);clear eJ eI;have c2:=HC.o w3 dK.o 2 x2 (by omega) (by omega) rfl;go_wp2_with fail;refine(dG.o w3).mono ?_;rintro e w4⟨rfl,cV⟩;have gB:=hid (gC.o.below rfl cV);have gK:=hid (gL.o.below rfl cV);have dO:=hid (dK.o.trans (cV.mono dK.o.size));have c3:=HC.o w4 dO.o 3 x3 (by omega) (by omega) rfl;clear cV gC gL dK c2 dG;go_wp2_with fail;refine(dF.o w4).mono ?_;rintro e w5⟨rfl,aZ⟩;have bH:=gB.o.below rfl aZ;have fQ:=gK.o.below rfl aZ;have fV:=dO.o.trans (aZ.mono dO.o.size);have y1:=Ah bH 1 (by omega);have t1:=Aq bH 1;have y2:=Ah bH 2 (by omega);have t2:=Aq bH 2;have bL:Hd (∀ k,some (⟨gr,0,none⟩:Addr)=some ⟨k,0,none⟩->k≠gx):=hid fun k hk=>by injection hk with hk;injection hk with hk;have:=eV.o;omega
  have eH:=(bH.set 1 (.int .i64 (a:Int)) (by show 1 < 11;omega)).set 2 (.int .i64 (b:Int)) (by show 2 < 11;omega);have eL:=(fQ.other ⟨gx,1,none⟩ (.int .i64 (a:Int)) bL.o).other ⟨gx,2,none⟩ (.int .i64 (b:Int)) bL.o;have eN:=(fV.setCell (p:=⟨gx,1,none⟩) bN.o (.int .i64 (a:Int))).setCell (p:=⟨gx,2,none⟩) bN.o (.int .i64 (b:Int));clear bH fQ fV aZ gB gK dO dF c3;go_upto_region 7 with fail;clear y1 t1 y2 t2;generalize (w5.setCell ⟨gx,1,none⟩ (.int .i64 (a:Int))).setCell ⟨gx,2,none⟩ (.int .i64 (b:Int))=w6 at eH eL eN |-;have dB:Hd (OwnV 60 11 w6 W1.heap.size (some ⟨gx,0,none⟩) 1 1 [.string (bsOf x1),.int .i64 (a:Int),.int .i64 (b:Int),.bool false,.bool false,.slice none 0 0,.int .i64 0,.int .i64 0,.int .i64 0,.int .i64 0,.int .i64 0]):=hid eH;have dJ:=hid eL;have bP:=hid eN;clear eH eL eN;obtain⟨aU,aG⟩:∃ o,o=(b2 && (b3 && nameF (bsOf x1))):=⟨_,rfl⟩;have c1:=HC.o w6 bP.o 1 x1 (by omega) (by omega) rfl;go_cut [6] from 43 to 52 (fun c wx=>c=.bool aU/\OwnV 60 11 wx W1.heap.size (some ⟨gx,0,none⟩) 1 1 [.string (bsOf x1),.int .i64 (a:Int),.int .i64 (b:Int),.bool false,.bool false,.slice none 0 0,.int .i64 0,.int .i64 0,.int .i64 0,.int .i64 0,.int .i64 0]/\OwnV 60 11 wx BB (some ⟨gr,0,none⟩) 1 1 [.string ⟨#[]⟩,.int .i64 0,.int .i64 0,.bool false,.bool false,.slice none 0 0,.int .i64 0,.int .i64 0,.int .i64 0,.int .i64 0,.int .i64 0]/\Below W1.heap.size W1 wx)
  case first =>
   cases b2 with
   | false =>
    go_wp2_with fail;go_meet
    case rel=>exact⟨by rw[aG];rfl,dB.o,dJ.o,bP.o⟩
   | true =>
    cases b3 with
    | false =>
     go_wp2_with fail;go_meet
     case rel=>exact⟨by rw[aG];rfl,dB.o,dJ.o,bP.o⟩
    | true =>
     go_wp2_with fail;refine(Xf (bsOf x1) w6 (by have h1:=bM.o.1;show x1.length<=_;omega)).mono ?_;rintro e w7⟨rfl,cU⟩;have aO:=hid (dB.o.below rfl cU);have dI:=hid (dJ.o.below rfl cU);have cM:=hid (bP.o.trans (cU.mono bP.o.size));clear cU c1;go_wp2_with fail;go_meet
     case rel=>exact⟨by rw[aG];rfl,aO.o,dI.o,cM.o⟩
  obtain⟨rfl,hX,hR,hB⟩:=hcut;have cL:Hd (aU=((valF lim40 x2).2 && ((valF lim40 x3).2 && nameF (bsOf x1)))):=hid (by rw[aG,<- dE.o.1,<- dE.o.2]);have aO:=hid hX;have dI:=hid hR;have cM:=hid hB;clear hX hR hB dB dJ bP c1 aG;have aK:((bsOf x4).toList == (⟨#[115]⟩:ByteArray).toList)=decide (x4=[115]):=Qx x4 [115];have aJ:((bsOf x4).toList == (⟨#[116]⟩:ByteArray).toList)=decide (x4=[116]):=Qx x4 [116];have aD:((bsOf x4).toList == (⟨#[115,116]⟩:ByteArray).toList)=decide (x4=[115,116]):=Qx x4 [115,116];have bB:((bsOf x4).toList == (⟨#[45]⟩:ByteArray).toList)=decide (x4=[45]):=Qx x4 [45];rw[show (⟨#[115]⟩:ByteArray).toList=[115] by first | rfl | decide | simp] at aK;rw[show (⟨#[116]⟩:ByteArray).toList=[116] by first | rfl | decide | simp] at aJ;rw[show (⟨#[115,116]⟩:ByteArray).toList=[115,116] by first | rfl | decide | simp] at aD;rw[show (⟨#[45]⟩:ByteArray).toList=[45] by first | rfl | decide | simp] at bB;obtain⟨f1,eF⟩:∃ f,f=decide (x4=[115]):=⟨_,rfl⟩;obtain⟨f2,eE⟩:∃ f,f=decide (x4=[115,116]):=⟨_,rfl⟩;obtain⟨f3,eD⟩:∃ f,f=decide (x4=[116]):=⟨_,rfl⟩;obtain⟨f4,eC⟩:∃ f,f=decide (x4=[45]):=⟨_,rfl⟩;have dL:=hid (Qda x4);rw[<- eF,<- eE,<- eD,<- eC] at dL;rw[<- eF] at aK;rw[<- eE] at aD;rw[<- eD] at aJ;rw[<- eC] at bB;clear eF eE eD eC;have dN:=hid fun V hv=>HC.o V hv 4 x4 (by omega) (by omega) rfl;generalize bsOf x4=iM at aK aJ aD bB dN;have gR:=hid bB;clear bB;obtain⟨sf,dT⟩:∃ o,o=(f1 || f2):=⟨_,rfl⟩;obtain⟨tf,dR⟩:∃ o,o=(f3 || f2):=⟨_,rfl⟩;have c4:=dN.o wc cM.o;have y3:=Ah aO.o 3 (by omega);have t3:=Aq aO.o 3;have y4:=Ah aO.o 4 (by omega);have t4:=Aq aO.o 4;go_upto_region 8 with fail;have cE:Hd (∀ p q,sf=p->tf=q->OwnV 60 11 (((wc.setCell ⟨gx,3,none⟩ (.bool p)).setCell ⟨gx,4,none⟩ (.bool q)).drew) W1.heap.size (some ⟨gx,0,none⟩) 1 1 [.string (bsOf x1),.int .i64 (a:Int),.int .i64 (b:Int),.bool sf,.bool tf,.slice none 0 0,.int .i64 0,.int .i64 0,.int .i64 0,.int .i64 0,.int .i64 0]/\OwnV 60 11 (((wc.setCell ⟨gx,3,none⟩ (.bool p)).setCell ⟨gx,4,none⟩ (.bool q)).drew) BB (some ⟨gr,0,none⟩) 1 1 [.string ⟨#[]⟩,.int .i64 0,.int .i64 0,.bool false,.bool false,.slice none 0 0,.int .i64 0,.int .i64 0,.int .i64 0,.int .i64 0,.int .i64 0]/\Below W1.heap.size W1 (((wc.setCell ⟨gx,3,none⟩ (.bool p)).setCell ⟨gx,4,none⟩ (.bool q)).drew)):=hid fun p q hp hq=>by
   subst hp hq;have h1:=(aO.o.set 3 (.bool sf) (by show 3 < 11;omega)).set 4 (.bool tf) (by show 4 < 11;omega);have h2:=(dI.o.other ⟨gx,3,none⟩ (.bool sf) bL.o).other ⟨gx,4,none⟩ (.bool tf) bL.o;have h3:=(cM.o.setCell (p:=⟨gx,3,none⟩) bN.o (.bool sf)).setCell (p:=⟨gx,4,none⟩) bN.o (.bool tf);exact⟨h1.below rfl (Aj _ _).drew,h2.below rfl (Aj _ _).drew,h3.drew⟩
  go_cut [] from 53 to 74 (fun wx=>OwnV 60 11 wx W1.heap.size (some ⟨gx,0,none⟩) 1 1 [.string (bsOf x1),.int .i64 (a:Int),.int .i64 (b:Int),.bool sf,.bool tf,.slice none 0 0,.int .i64 0,.int .i64 0,.int .i64 0,.int .i64 0,.int .i64 0]/\OwnV 60 11 wx BB (some ⟨gr,0,none⟩) 1 1 [.string ⟨#[]⟩,.int .i64 0,.int .i64 0,.bool false,.bool false,.slice none 0 0,.int .i64 0,.int .i64 0,.int .i64 0,.int .i64 0,.int .i64 0]/\Below W1.heap.size W1 wx)
  case first =>
   cases f1 <;> cases f3
   all_goals
    go_region;go_wp2_with fail;go_meet
    case rel=>exact cE.o _ _ (by rw[dT];cases f2 <;> rfl) (by rw[dR];cases f2 <;> rfl)
  obtain⟨hX,hR,hB⟩:=hcut;rw[<- dT,<- dR] at dL;have aN:=hid hX;have bJ:=hid hR;have aQ:=hid hB;clear hX hR hB aO dI cM cE dT dR aK aJ aD c4 y3 t3 y4 t4;obtain⟨n5,dX⟩:∃ n,n=x5.length:=⟨_,rfl⟩;obtain⟨l5,dY⟩:∃ l,l=decide (x5.length=5):=⟨_,rfl⟩;have h5:((n5:Int) == 5)=l5:=by
   rw[dY,dX,Bool.eq_iff_iff,Ck,Av];omega
  have bR:(bsOf x5).size=n5:=by rw[dX];rfl
  have bE:=hid fun i c (h:x5[i]? = some c)=>sidx h;have dM:=hid fun V hv=>HC.o V hv 5 x5 (by omega) (by omega) rfl;clear dX;generalize bsOf x5=gU at bR bE dM;have eW:=hid dY;clear dY;obtain⟨aT,aA⟩:∃ o,o=(aU && ((f4 || (sf || tf)) && l5)):=⟨_,rfl⟩;have c4:=dN.o wc aQ.o;have c5:=dM.o wc aQ.o;have y3:=Ah aN.o 3 (by omega);have y4:=Ah aN.o 4 (by omega);have bB:=gR.o;go_upto_region 9 with fail;go_cut [6] from 75 to 96 (fun o wx=>o=.bool aT/\OwnV 60 11 wx W1.heap.size (some ⟨gx,0,none⟩) 1 1 [.string (bsOf x1),.int .i64 (a:Int),.int .i64 (b:Int),.bool sf,.bool tf,.slice none 0 0,.int .i64 0,.int .i64 0,.int .i64 0,.int .i64 0,.int .i64 0]/\OwnV 60 11 wx BB (some ⟨gr,0,none⟩) 1 1 [.string ⟨#[]⟩,.int .i64 0,.int .i64 0,.bool false,.bool false,.slice none 0 0,.int .i64 0,.int .i64 0,.int .i64 0,.int .i64 0,.int .i64 0]/\Below W1.heap.size W1 wx)
  case first =>
   cases aU with
   | false =>
    go_wp2_with fail;go_meet
    case rel=>exact⟨by rw[aA];rfl,aN.o,bJ.o,aQ.o⟩
   | true =>
    cases f4 with
    | true =>
     go_wp2_with fail;go_meet
     case rel=>exact⟨by rw[aA];rfl,aN.o,bJ.o,aQ.o⟩
    | false =>
     cases sf with
     | true =>
      go_wp2_with fail;go_meet
      case rel=>exact⟨by rw[aA];rfl,aN.o,bJ.o,aQ.o⟩
     | false =>
      cases tf with
      | true =>
       go_wp2_with fail;go_meet
       case rel=>exact⟨by rw[aA];rfl,aN.o,bJ.o,aQ.o⟩
      | false =>
       go_wp2_with fail;go_meet
       case rel=>exact⟨by rw[aA];rfl,aN.o,bJ.o,aQ.o⟩
  obtain⟨rfl,hX,hR,hB⟩:=hcut;have gA:=hid hX;have gJ:=hid hR;have aP:=hid hB;have bD:Hd (aT=true->aU=true/\(f4 || (sf || tf))=true/\x5.length=5):=hid fun h=>by
   rw[aA,eW.o] at h;simp only[Au,Av] at h;exact⟨h.1,h.2.1,h.2.2⟩
  have eU:Hd (aT=false->aU=false\/(f4 || (sf || tf))=false\/healP x5=none):=hid fun h=>by
   rw[aA,eW.o] at h;cases aU with
   | false=>exact .inl rfl
   | true =>
    cases hf:(f4 || (sf || tf)) with
    | false=>exact .inr (.inl rfl)
    | true =>
     rw[hf] at h;exact .inr (.inr (de (of_decide_eq_false h)))
  clear hX hR hB aN bJ aQ c4 c5 y3 y4 bB aA h5 eW gR dN;go_wp2;go_loopw [6,9] (fun o s wx=>∃(i:Nat) (aC:Bool) (h:Nat->Int),i<=5/\s=.int .i64 i/\o=.bool aC/\(OwnV 60 11 wx W1.heap.size (some ⟨gx,0,none⟩) 1 1 [.string (bsOf x1),.int .i64 (a:Int),.int .i64 (b:Int),.bool sf,.bool tf,.slice none 0 0,.int .i64 (h 0),.int .i64 (h 1),.int .i64 (h 2),.int .i64 (h 3),.int .i64 (h 4)]/\OwnV 60 11 wx BB (some ⟨gr,0,none⟩) 1 1 [.string ⟨#[]⟩,.int .i64 0,.int .i64 0,.bool false,.bool false,.slice none 0 0,.int .i64 0,.int .i64 0,.int .i64 0,.int .i64 0,.int .i64 0]/\Below W1.heap.size W1 wx)/\(aC=true->aT=true/\∀ j,j < i->∀ c,x5[j]? = some c->dgH c=true/\h j=(c.toNat:Int) - 48)/\(aC=false->aT=false\/healP x5=none)) (fun _ s _=>5 - (intOf s).toNat)
  case atStart=>exact⟨0,aT,fun _=>0,by omega,rfl,rfl,⟨gA.o,gJ.o,aP.o⟩,fun h=>⟨h,fun j hj=>by omega⟩,fun h=>.inl h⟩
  obtain⟨i,aC,h,hi,rfl,rfl,⟨hX,hR,hB⟩,bT,bS⟩:=hrel;have HX:=hid hX;have HR:=hid hR;have HB:=hid hB;have aL:=hid bT;have bC:=hid bS;clear hX hR hB bT bS gA gJ aP;by_cases cR:i < 5/\aC=true
  ·obtain⟨fJ,rfl⟩:=cR;have bY:(i:Int) < 5:=by omega
   obtain⟨fH,fL⟩:=aL.o rfl;have iK:=hid fL;have hl:=(bD.o fH).2.2;obtain⟨d,hd⟩:∃ d,x5[i]? = some d:=⟨_,Am (by omega)⟩;have HD:=hid hd;obtain⟨y,hy⟩:∃ y,y=d.toNat:=⟨_,rfl⟩;have iQ:∀ W,(Instr.index 9 (.string gU) (.int .i64 (i:Int))).run Tryz.prog W=.ok (.int .u8 (y:Int)) W:=by rw[hy];exact bE.o i d hd
   have fB:y < 256:=by rw[hy];exact d.toNat_lt
   have c5:=dM.o wr HB.o;obtain⟨v6,fD⟩:∃ v,([.string (bsOf x1),.int .i64 (a:Int),.int .i64 (b:Int),.bool sf,.bool tf,.slice none 0 0,.int .i64 (h 0),.int .i64 (h 1),.int .i64 (h 2),.int .i64 (h 3),.int .i64 (h 4)]:List Value)[6+i]? = some v:=⟨_,Am (by show 6+i < 11;omega)⟩;have y6:=(Ah HX.o (6+i) (by omega)).trans fD;have t6:=Aq HX.o (6+i);have cP:IntKind.i64.wrap (y:Int)=(y:Int):=Nf (by omega);have eQ:Hd (OwnV 60 11 (wr.setCell ⟨gx,6+i,none⟩ (.int .i64 ((y:Int) - 48))) W1.heap.size (some ⟨gx,0,none⟩) 1 1 [.string (bsOf x1),.int .i64 (a:Int),.int .i64 (b:Int),.bool sf,.bool tf,.slice none 0 0,.int .i64 (if 0=i then (y:Int) - 48 else h 0),.int .i64 (if 1=i then (y:Int) - 48 else h 1),.int .i64 (if 2=i then (y:Int) - 48 else h 2),.int .i64 (if 3=i then (y:Int) - 48 else h 3),.int .i64 (if 4=i then (y:Int) - 48 else h 4)]):=hid (by
    have h1:=HX.o.set (6+i) (.int .i64 ((y:Int) - 48)) (by show 6+i < 11;omega);rcases(by omega:i=0\/i=1\/i=2\/i=3\/i=4) with rfl | rfl | rfl | rfl | rfl <;> exact h1)
   have eS:=hid (HR.o.other ⟨gx,6+i,none⟩ (.int .i64 ((y:Int) - 48)) bL.o);have eY:=hid (HB.o.setCell (p:=⟨gx,6+i,none⟩) bN.o (.int .i64 ((y:Int) - 48)));have cZ:=hid hy;clear fL hd hy fD fH hl;by_cases iT:y < 48
   ·have cA:¬ (48:Int)<=(y:Int):=by omega
    have dW:dgH d=false:=by unfold dgH;rw[Ac];have:=cZ.o;omega
    go_wp2;go_roundw
    case rel=>exact⟨i+1,false,fun j=>if j=i then (y:Int) - 48 else h j,by omega,by go_num,rfl,⟨eQ.o,eS.o,eY.o⟩,(fun e=>by cases e),fun _=>.inr (Wv HD.o dW)⟩
    simp[intOf];omega
   by_cases iS:50 < y
   ·have cA:(48:Int)<=(y:Int):=by omega
    have eP:¬ (y:Int)<=50:=by omega
    have dW:dgH d=false:=by unfold dgH;rw[Ac];have:=cZ.o;omega
    go_wp2;go_roundw
    case rel=>exact⟨i+1,false,fun j=>if j=i then (y:Int) - 48 else h j,by omega,by go_num,rfl,⟨eQ.o,eS.o,eY.o⟩,(fun e=>by cases e),fun _=>.inr (Wv HD.o dW)⟩
    simp[intOf];omega
   have cA:(48:Int)<=(y:Int):=by omega
   have eP:(y:Int)<=50:=by omega
   have dP:dgH d=true:=by unfold dgH;rw[Ae];have:=cZ.o;omega
   have iI:=hid dP;go_wp2;go_roundw
   case rel=>exact⟨i+1,true,fun j=>if j=i then (y:Int) - 48 else h j,by omega,by go_num,rfl,⟨eQ.o,eS.o,eY.o⟩,(fun _=>⟨(aL.o rfl).1,fun j hj c hc=>by
    by_cases fI:j=i
    ·subst fI;have e:=hc.symm.trans HD.o;injection e with e;subst e;refine⟨iI.o,?_⟩;dsimp only;rw[if_pos rfl,cZ.o]
    dsimp only;rw[if_neg fI];exact iK.o j (by omega) c hc⟩),(fun e=>by cases e)⟩
   simp[intOf];omega
  have E1:Hd (aC=true->aT=true/\healP x5=some (h 0,h 1,h 2,h 3,h 4)):=hid (fun e=>by
   obtain⟨h1,h2⟩:=aL.o e;have iR:¬ i < 5:=fun h5=>cR ⟨h5,e⟩;exact⟨h1,dd (bD.o h1).2.2 fun j hj c hc=>h2 j (by omega) c hc⟩)
  have E2:=bC;have hJ:((i:Int) < 5/\aC=false)\/¬ (i:Int) < 5:=by
   by_cases fJ:i < 5
   ·refine .inl ⟨by omega,?_⟩;cases aC with
    | false=>rfl
    | true=>exact absurd ⟨fJ,rfl⟩ cR
   exact .inr (by omega)
  clear cR;rcases hJ with ⟨bY,gX⟩ | bY
  all_goals
   clear aL bC bE dM bR;have c6:=HC.o wr HB.o 6 x6 (by omega) (by omega) rfl;go_wp2_with fail;refine(Ii x6 44 44 rfl wr (by have:=bM.o;omega)).mono ?_;rintro e iL⟨AS,nS,cS,rfl,eK,bA,cY⟩;have cD:=hid (HX.o.below rfl cY);have cJ:=hid (HR.o.below rfl cY);have cO:=hid (HB.o.trans (cY.mono HB.o.size));have gH:=hid (Hv (b:=44) x6);have iO:nS<=1048577:=by have h1:=Hw (b:=44) x6;have h2:=bM.o.2.2.2.2.2;omega
   obtain⟨S,hS⟩:∃ S,S=splitF 44 x6:=⟨_,rfl⟩;rw[<- hS] at eK bA gH;obtain⟨BS,fT⟩:∃ b,b=wr.heap.size:=⟨_,rfl⟩;rw[<- fT] at bA;have cF:=hid bA;have gG:=hid eK;have eR:=hid hS;clear eK bA cY hS fT HX HR HB c6;go_wp2;go_loopw [6,11,12,13,14,15,16,133] (fun o _ _ _ _ _ _ s wx=>∃(j c:Nat) (aR pb:Bool) (A:Option Addr) (Lp:List (Int×Int)),j<=nS/\s=.int .i64 j/\o=.bool aR/\aR=(aC && pb)/\Lp.length=j/\OwnV 62 2 wx W1.heap.size A j c (Lp.flatMap prc)/\(OwnV 60 11 wx W1.heap.size (some ⟨gx,0,none⟩) 1 1 [.string (bsOf x1),.int .i64 (a:Int),.int .i64 (b:Int),.bool sf,.bool tf,.slice A (j:Nat) c,.int .i64 (h 0),.int .i64 (h 1),.int .i64 (h 2),.int .i64 (h 3),.int .i64 (h 4)]/\OwnV 60 11 wx BB (some ⟨gr,0,none⟩) 1 1 [.string ⟨#[]⟩,.int .i64 0,.int .i64 0,.bool false,.bool false,.slice none 0 0,.int .i64 0,.int .i64 0,.int .i64 0,.int .i64 0,.int .i64 0]/\Below W1.heap.size W1 wx)/\OwnV 9 1 wx BS AS nS cS (S.flatMap sc)/\(pb=true->procsP (S.take j)=some Lp)/\(pb=false->procsP S=none)) (fun _ _ _ _ _ _ _ s _=>nS - (intOf s).toNat)
   case atStart=>exact⟨0,0,aC,true,none,[],by omega,rfl,by first | rfl | exact congrArg Value.bool gX.symm,by cases aC <;> rfl,rfl,OwnV.nil _ _ _ _,⟨cD.o,cJ.o,cO.o⟩,cF.o,(fun _=>rfl),fun e=>by cases e⟩
   obtain⟨j,c,aR,pb,A,Lp,hj,rfl,rfl,bV,fS,hP,⟨hX,hR,hB⟩,bA,bT,bS⟩:=hrel;have HX:=hid hX;have HR:=hid hR;have HB:=hid hB;have HP:=hid hP;have cF:=hid bA;have aL:=hid bT;have bC:=hid bS;have iG:=hid fS;have aM:=hid bV;clear hX hR hB hP bA bT bS fS bV cD cJ cO;by_cases gZ:j < nS
   ·obtain⟨aS,x,rfl,iB,hx,e0,ek⟩:=(⟨gG.o,cF.o.rd⟩:RdB sc wr wr.heap.size AS nS S).at_ Fl (by omega) gZ;have e0:=e0 _ rfl;rw[Cj] at e0;have dQ:x.length<=1048576:=by have h1:=gH.o x (An hx);have h2:=bM.o.2.2.2.2.2;omega
    have dA:=hid hx;clear ek iB hx;go_wp2_with fail;refine(Ii x 58 58 rfl wr dQ).mono ?_;rintro e bQ⟨A2,n2,c2,rfl,fY,fX,bI⟩;have fZ:=hid (HX.o.below rfl bI);have dH:=hid (HR.o.below rfl bI);have bO:=hid (HB.o.trans (bI.mono HB.o.size));have gN:=hid (HP.o.below rfl bI);have gF:=hid (cF.o.below rfl bI);have gS:=hid fX;have eZ:=hid fY;have iE:=hid dQ;clear bI fX fY dQ e0 HX HR HB HP cF;by_cases fG:n2=2
    ·subst fG;obtain⟨p,q,bU⟩:=Zp eZ.o;have aX:RdB sc bQ bQ.heap.size A2 2 [p,q]:=⟨rfl,by rw[<- bU];exact gS.o.rd⟩;obtain⟨a2,p',rfl,_,dV,p0,_⟩:=aX.at_ Fl (by omega) (show 0 < 2 by omega);obtain⟨a3,q',fW,_,dU,q0,_⟩:=aX.at_ Fl (by omega) (show 1 < 2 by omega);injection dV with dV;injection dU with dU;subst dV dU;obtain rfl:a2=a3:=by injection fW
     have p0:=p0 _ rfl;have q0:=q0 _ rfl;rw[Nat.zero_mul,show a2.add 0=a2 from by unfold Addr.add;rw[if_pos rfl]] at p0;rw[Cj,show a2.add 1=⟨a2.block,a2.off+1,none⟩ from by unfold Addr.add;rw[if_neg (by omega)]] at q0;have eB:=Hv (b:=58) x;have gQ:Hd (p.length<=1048576/\q.length<=1048576):=hid (by
      have h1:=eB p (by rw[bU];simp);have h2:=eB q (by rw[bU];simp);have h3:=iE.o;omega)
     have dD:=hid fun V=>Fx lim40 (Ag _) p V (by have:=gQ.o;omega);have dC:=hid fun V=>Fx lim40 (Ag _) q V (by have:=gQ.o;omega);have bK:=hid (ay bU);obtain⟨VP,fO⟩:∃ v,v=valF lim40 p:=⟨_,rfl⟩;obtain⟨VQ,fN⟩:∃ v,v=valF lim40 q:=⟨_,rfl⟩;rw[<- fO] at dD bK;rw[<- fN] at dC bK;obtain⟨ev,eb⟩:=VP;obtain⟨qv,qb⟩:=VQ;dsimp only at dD dC bK;have gM:=hid fun V (hv:Below bQ.heap.size bQ V)=>(hv.cell (Bj _ _ q0)).trans q0;clear eB bU aX fO fN fW q0;go_wp2_with fail;refine(dD.o bQ).mono ?_;rintro e fA⟨rfl,aB⟩;have q0:=gM.o fA aB;have cC:=hid (fZ.o.below rfl aB);have cI:=hid (dH.o.below rfl aB);have bF:=hid (bO.o.trans (aB.mono bO.o.size));have cK:=hid (gN.o.below rfl aB);have cG:=hid (gF.o.below rfl aB);clear aB fZ dH bO gN gF p0 dD gM gS eZ;go_wp2_with fail;refine(dC.o fA).mono ?_;rintro e bG⟨rfl,aF⟩;have hX:=cC.o.below rfl aF;have hR:=cI.o.below rfl aF;have hB:=bF.o.trans (aF.mono bF.o.size);have hP:=cK.o.below rfl aF;have hS:=cG.o.below rfl aF;clear aF cC cI bF cK cG q0 dC;have y5:=Ah hX 5 (by omega);have aI:=bl1 bG (.cells #[.int .i64 (ev:Int),.int .i64 (qv:Int)] 62);have aE:=hP.below rfl aI;have cX:=hX.below rfl aI;have fR:=hR.below rfl aI;have fP:=hS.below rfl aI;have eO:=hB.trans (aI.mono hB.size);have dS:W1.heap.size<=(bG.alloc (.cells #[.int .i64 (ev:Int),.int .i64 (qv:Int)] 62)).heap.size:=eO.size;have gW:=rdV_new bG #[.int .i64 (ev:Int),.int .i64 (qv:Int)] 62 ([((ev:Int),(qv:Int))].flatMap prc) rfl;have iF:=hid fun A5 w5 (hg:Grew A A5 (bG.alloc (.cells #[.int .i64 (ev:Int),.int .i64 (qv:Int)] 62)) w5)=>And.intro (Ah (cX.grewT aE (by decide) hg) 5 (by omega)) (Aq (cX.grewT aE (by decide) hg) 5);have iJ:Hd (∀(A5:Option Addr) (c5:Nat) (w5:World),OwnV 62 2 w5 W1.heap.size A5 (j+1) c5 ((Lp++[((ev:Int),(qv:Int))]).flatMap prc)->Below W1.heap.size (bG.alloc (.cells #[.int .i64 (ev:Int),.int .i64 (qv:Int)] 62)) w5->Grew A A5 (bG.alloc (.cells #[.int .i64 (ev:Int),.int .i64 (qv:Int)] 62)) w5->
       (OwnV 60 11 (w5.setCell ⟨gx,5,none⟩ (.slice A5 (j+1:Nat) c5)) W1.heap.size (some ⟨gx,0,none⟩) 1 1 [.string (bsOf x1),.int .i64 (a:Int),.int .i64 (b:Int),.bool sf,.bool tf,.slice A5 (j+1:Nat) c5,.int .i64 (h 0),.int .i64 (h 1),.int .i64 (h 2),.int .i64 (h 3),.int .i64 (h 4)])/\(OwnV 60 11 (w5.setCell ⟨gx,5,none⟩ (.slice A5 (j+1:Nat) c5)) BB (some ⟨gr,0,none⟩) 1 1 [.string ⟨#[]⟩,.int .i64 0,.int .i64 0,.bool false,.bool false,.slice none 0 0,.int .i64 0,.int .i64 0,.int .i64 0,.int .i64 0,.int .i64 0])/\Below W1.heap.size W1 (w5.setCell ⟨gx,5,none⟩ (.slice A5 (j+1:Nat) c5))/\OwnV 62 2 (w5.setCell ⟨gx,5,none⟩ (.slice A5 (j+1:Nat) c5)) W1.heap.size A5 (j+1) c5 ((Lp++[((ev:Int),(qv:Int))]).flatMap prc)/\OwnV 9 1 (w5.setCell ⟨gx,5,none⟩ (.slice A5 (j+1:Nat) c5)) BS (some aS) nS cS (S.flatMap sc)):=hid (fun A5 c5 w5 ho hb hg=>by
      have g1:=cX.grewT aE (by decide) hg;have g2:=fR.grewT aE (by decide) hg;have g3:=fP.grewT aE (by decide) hg;exact⟨g1.set 5 (.slice A5 (j+1:Nat) c5) (by show 5 < 11;omega),g2.other ⟨gx,5,none⟩ (.slice A5 (j+1:Nat) c5) bL.o,(eO.trans hb).setCell (p:=⟨gx,5,none⟩) bN.o (.slice A5 (j+1:Nat) c5),ho.other ⟨gx,5,none⟩ (.slice A5 (j+1:Nat) c5) (ho.apart' g1 (by decide)),g3.other ⟨gx,5,none⟩ (.slice A5 (j+1:Nat) c5) (g3.apart' g1 (by decide))⟩)
     have gD:Hd (S.take (j+1)=S.take j++[x]):=hid (by rw[List.take_add_one,dA.o];rfl);have gO:Hd (((pb && (eb && qb))=true->procsP (S.take (j+1))=some (Lp++[((ev:Int),(qv:Int))]))/\((pb && (eb && qb))=false->procsP S=none)):=hid ⟨fun h=>by
       simp only[Au] at h;rw[gD.o];exact Nz (aL.o h.1) (by rw[bK.o,h.2.1,h.2.2];rfl),fun h=>by
       cases pb with
       | false=>exact bC.o rfl
       | true =>
        refine Kn (An dA.o) ?_;rw[bK.o,if_neg];intro e;rw[e] at h;cases h⟩
     have eT:Hd ((aR && (eb && qb))=(aC && (pb && (eb && qb)))):=hid (by rw[aM.o,Bool.and_assoc]);have iH:Hd ((Lp++[((ev:Int),(qv:Int))]).length=j+1):=hid (by rw[Aa,iG.o];rfl);clear aI hX hR hB hP hS cX fR fP eO aL bC bK gD dA aM;cases aR <;> cases eb
     all_goals
      go_wp2_with (at_builtin;go_loud (refine Ea mg rfl (.tmp 165) (.tmp 169) rfl rfl W1.heap.size A j c _ rfl aE _ 1 1 _ _ rfl gW rfl Cv (Q6 [((ev:Int),(qv:Int))]) (by omega) (by unfold maxLen;omega) dS (j+1) rfl ((Lp++[((ev:Int),(qv:Int))]).flatMap prc) (by rw[Bu]) ?_;intro A5 c5 w5 fC aZ dZ;obtain⟨z5,gT⟩:=iF.o A5 w5 dZ));obtain⟨k1,k2,k3,k4,k5⟩:=iJ.o A5 c5 w5 fC aZ dZ;have K1:=hid k1;have K2:=hid k2;have K3:=hid k3;have K4:=hid k4;have K5:=hid k5;clear k1 k2 k3 k4 k5 fC aZ dZ z5 gT;go_roundw
      case rel=>exact⟨j+1,c5,_,_,A5,Lp++[((ev:Int),(qv:Int))],by omega,by go_num,rfl,eT.o,iH.o,K4.o,⟨K1.o,K2.o,K3.o⟩,K5.o,gO.o.1,gO.o.2⟩
      simp[intOf];omega
    have i1:((n2:Int) != 2)=true:=Bz.2 (by omega);have i2:((n2:Int) == 2)=false:=Ak.2 (by omega);have gP:=hid (Jx (w0:=x0) (w1:=x1) (w2:=x2) (w3:=x3) (w4:=x4) (w5:=x5) (w6:=x6) (.inr (.inr (.inr (Kn (by rw[<- eR.o];exact An dA.o) (az (by rw[eZ.o];exact fG)))))));go_wp2_with (refine wpList_storeX (l:=[.string ⟨#[]⟩,.int .i64 0,.int .i64 0,.bool false,.bool false,.slice none 0 0,.int .i64 0,.int .i64 0,.int .i64 0,.int .i64 0,.int .i64 0]) rfl (.tmp 2) (.tmp 142) rfl rfl rfl (sz_part _) dH.o rfl V9 fun w9 bW aY=>?_);have aP:Hd (Below w.heap.size w w9):=hid ((aH.o.trans (bO.o.mono aH.o.size)).trans (Fq aY (Nat.le_of_eq eX.o) (Ai aH.o.size bO.o.size)));refine Be (Il rfl rfl bW) rfl ?_;exact⟨aP.o,⟨⟨#[]⟩,0,0,false,false,none,0,0,0,0,0,0,0⟩,[],by rw[gP.o];rfl,OwnV.nil _ _ _ _,fun y hy=>by rw[gP.o] at hy;cases hy⟩
   have gY:¬ (j:Int) < (nS:Int):=by omega
   have iP:j=nS:=by omega
   have dH:=HR;have bO:=HB;have gI:Hd ((.bool (partP [x0,x1,x2,x3,x4,x5,x6]).isSome:Value)=.bool aR/\∀ y,partP [x0,x1,x2,x3,x4,x5,x6]=some y->y.2=Lp/\y.1=⟨bsOf x1,(a:Int),(b:Int),sf,tf,none,Lp.length,Lp.length,h 0,h 1,h 2,h 3,h 4⟩):=hid (by
    have eG:S.take j=S:=Bd (by rw[gG.o];omega);have hd:=aM.o;cases aR with
    | true =>
     have fF:aC=true/\pb=true:=by
      have:=hd.symm;rwa [Au] at this
     obtain⟨g1,g2⟩:=E1.o fF.1;obtain⟨g3,g4,g5⟩:=bD.o g1;have g6:=aL.o fF.2;rw[eG,eR.o] at g6;have g7:flagP x4=some (sf,tf):=by rw[dL.o,if_pos g4]
     have e:=bj (w0:=x0) (w1:=x1) (cL.o.symm.trans g3) g7 g2 g6;rw[e];refine⟨rfl,fun y hy=>?_⟩;injection hy with hy;rw[<- hy,<- dE.o.1,<- dE.o.2];exact⟨rfl,rfl⟩
    | false =>
     have e:partP [x0,x1,x2,x3,x4,x5,x6]=none:=by
      cases fE:pb with
      | false=>exact Jx (.inr (.inr (.inr (by rw[<- eR.o];exact bC.o fE))))
      | true =>
       have ho:aC=false:=by
        first | rfl | (rw[fE,Bool.and_true] at hd;exact hd.symm)
       rcases E2.o (by first | exact ho | trivial) with g | g
       ·rcases eU.o g with g | g | g
        ·exact Jx (.inl (cL.o.symm.trans g))
        ·exact Jx (.inr (.inl (by rw[dL.o,g];rfl)))
        exact Jx (.inr (.inr (.inl g)))
       exact Jx (.inr (.inr (.inl g)))
     rw[e];exact⟨rfl,fun y hy=>by cases hy⟩)
   clear aM E1 E2 aL bC;obtain⟨hh,rfl⟩:∃ f,f=h:=⟨h,rfl⟩;go_upto_region 26 with fail;refine wp_region_lit (wpList_loadX rfl (.tmp 4) rfl rfl (jy _) (sz_part _) HX.o (Rq rfl _ rfl (wpList_storeX (l:=[.string (bsOf x1),.int .i64 (a:Int),.int .i64 (b:Int),.bool sf,.bool tf,.slice A (j:Nat) c,.int .i64 (hh 0),.int .i64 (hh 1),.int .i64 (hh 2),.int .i64 (hh 3),.int .i64 (hh 4)]) rfl (.tmp 2) (.tmp 173) rfl rfl rfl (sz_part _) HR.o rfl ?_ fun w9 bW aY=>?_)))
   ·intro v hv;simp only[Ba,Co,or_false] at hv;rcases hv with rfl | rfl | rfl | rfl | rfl | rfl | rfl | rfl | rfl | rfl | rfl <;> rfl
   have iC:=OwnV.gbo HP.o aY (fun e=>OwnV.apart HP.o HR.o (by decide) gr e rfl);have gV:=aY.size;have aP:Hd (Below w.heap.size w w9):=hid ((aH.o.trans (HB.o.mono aH.o.size)).trans (Fq aY (Nat.le_of_eq eX.o) (Ai aH.o.size HB.o.size)));go_wp2_with fail;refine Be (Il rfl rfl bW) rfl ?_;exact⟨aP.o,⟨bsOf x1,(a:Int),(b:Int),sf,tf,A,j,c,hh 0,hh 1,hh 2,hh 3,hh 4⟩,Lp,by rw[gI.o.1];rfl,iC.weak aH.o.size,gI.o.2⟩
 have i1:((nW:Int) != 7)=true:=Bz.2 (by omega);have i2:((nW:Int) == 7)=false:=Ak.2 (by omega);have gE:=hid (Sj (W:=W) (by omega));go_wp2_with (refine wpList_storeX (l:=[.string ⟨#[]⟩,.int .i64 0,.int .i64 0,.bool false,.bool false,.slice none 0 0,.int .i64 0,.int .i64 0,.int .i64 0,.int .i64 0,.int .i64 0]) rfl (.tmp 2) (.tmp 20) rfl rfl rfl (sz_part _) cH.o rfl V9 fun w9 bW aY=>?_);have aP:=hid (aH.o.trans (Fq aY (Nat.le_of_eq eX.o) aH.o.size));refine Be (Il rfl rfl bW) rfl ?_;exact⟨aP.o,⟨⟨#[]⟩,0,0,false,false,none,0,0,0,0,0,0,0⟩,[],by rw[gE.o];rfl,OwnV.nil _ _ _ _,fun y hy=>by rw[gE.o] at hy;cases hy⟩
structure Kw(B BN BS gc gr:Nat)(S:List (List UInt8))(AS:Option Addr)(nS cS:Nat)(x:Cf)(AN:Option Addr)(cN:Nat)(w0 w:World):Prop where
 cv:CvS B gc x w
 re:OwnV 31 3 w B (some ⟨gr,0,none⟩) 1 1 [.slice none 0 0,.slice none 0 0,.slice none 0 0]
 nr:gr≠gc
 ls:OwnV 9 1 w BS AS nS cS (S.flatMap sc)
 nm:OwnV 9 1 w BN AN x.n1 cN ((namesP x.P).flatMap sc)
 lt:∀ k,obk AS=some k->k < BN
 be:Below B w0 w
 bn:B<=BN
 sz:BN<=w.heap.size
section
variable {B BN BS gc gr nS cS:Nat} {S:List (List UInt8)} {AS A1 A2 A3 AN:Option Addr} {n1 n2 n3 c1 c2 c3 cN:Nat} {P:List Pq} {C:List ChV} {T:List NdT} {x:Cf} {w0 W0 w w':World} {live:Nat->Bool} {a:Act} {y:PtV}
theorem Kw.on(h:Kw B BN BS gc gr S AS nS cS x AN cN w0 w)(hb:Below w.heap.size w w'):Kw B BN BS gc gr S AS nS cS x AN cN w0 w' :=
 ⟨h.cv.on hb,OwnV.below h.re rfl hb,h.nr,OwnV.below h.ls rfl hb,OwnV.below h.nm rfl hb,h.lt,h.be.trans (hb.mono (Ai h.bn h.sz)),h.bn,Ai h.sz hb.size⟩
theorem TwS.fin(h:Kw B BN BS gc gr S AS nS cS ⟨A1,A2,A3,n1,n2,n3,c1,c2,c3,P,C,T⟩ AN cN w0 W0)
  (tw:TwS B BN B gc [.slice A1 n1 c1,.slice A2 n2 c2,.slice A3 n3 c3] A1 n1 c1 (P.flatMap pcq) (pcl y) AN n1 cN ((namesP P).flatMap sc) (.string y.name) W0 live a w) (hl:live 4=true/\live 11=true/\live 9=true/\live 12=true) :
  OwnV 31 3 w B (some ⟨gr,0,none⟩) 1 1 [.slice none 0 0,.slice none 0 0,.slice none 0 0]/\Below B w0 w/\∃(A':Option Addr) (c':Nat) (aB:Option Addr) (aA:Nat),a.eval (.tmp 6)=.slice aB (n1+1:Nat) aA/\∀ L:List (Int×Int),OwnV 62 2 W0 B y.pa y.pn y.pc (L.flatMap prc)->(Ef y.per/\y.name.size<=140737488351232/\L.length=y.pn/\y.pn*16<=140737488351232)->(n1+1)*104<=140737488351232->
   Kw B BN BS gc gr S AS nS cS ⟨A',A2,A3,n1+1,n2,n3,c',c2,c3,P++[(y,L)],C,T⟩ aB aA w0 w:=by
 obtain⟨A',c',_,p2,p3⟩:=tw.p2 hl.1;obtain⟨aB,aA,_,q2,q3⟩:=tw.q2 hl.2.2.1;have p3:=p3 hl.2.1;have q3:=q3 hl.2.2.2;have aC:OwnV 31 3 w B (some ⟨gr,0,none⟩) 1 1 [.slice none 0 0,.slice none 0 0,.slice none 0 0]:=tw.kp.own h.re fun k hk hs=>by
  rcases hs with e | e | e
  ·injection hk with hk;exact h.nr (hk.trans e)
  ·exact OwnV.apart h.re h.cv.s.pp.own (by decide) k hk e
  exact OwnV.apart h.re h.nm (by decide) k hk e
 have aD:Below B w0 w:=h.be.trans (tw.kp.below (fun k hs=>by
  rcases hs with e | e | e
  ·rw[e];exact(OwnV.obk_ge h.cv.s.cf (b:=gc) rfl).1
  ·exact(OwnV.obk_ge h.cv.s.pp.own e).1
  exact Ai h.bn (OwnV.obk_ge h.nm e).1) (Ai h.bn h.sz))
 refine⟨aC,aD,A',c',aB,aA,q3,fun L hL hc hn=>⟨?_,aC,h.nr,?_,?_,h.lt,aD,h.bn,Ai h.sz tw.kp.size⟩⟩
 ·refine CvS.part2 h.cv h.nm tw.kp (fun k hs=>hs) (y,L) p2 p3 (tw.kp.own hL fun k hk hs=>?_) hc hn;rcases hs with e | e | e
  ·exact Hj hL h.cv (by decide) (e▸hk)
  ·exact OwnV.apart hL h.cv.s.pp.own (by decide) k hk e
  exact OwnV.apart hL h.nm (by decide) k hk e
 ·refine tw.kp.own h.ls fun k hk hs=>?_;rcases hs with e | e | e
  ·exact Hj h.ls h.cv (by decide) (e▸hk)
  ·exact OwnV.apart h.ls h.cv.s.pp.own (by decide) k hk e
  have h1:=h.lt k hk;have h2:=(OwnV.obk_ge h.nm e).1;omega
 have e:(namesP (P++[(y,L)])).flatMap sc=(namesP P).flatMap sc++[.string y.name]:=by
  unfold namesP;rw[De,Bu];rfl
 show OwnV 9 1 w BN aB (n1+1) aA ((namesP (P++[(y,L)])).flatMap sc);rw[e];exact q2
theorem Kw.chan(h:Kw B BN BS gc gr S AS nS cS ⟨A1,A2,A3,n1,n2,n3,c1,c2,c3,P,C,T⟩ AN cN w0 w){A':Option Addr}{c':Nat}(hg:Grew A2 A' w w')(z:ChV)(hp:OwnV 66 6 w' B A' (n2+1) c' ((C++[z]).flatMap cc))(hb:Below B w w')(hn:(n2+1)*48<=140737488351232):
  Kw B BN BS gc gr S AS nS cS ⟨A1,A',A3,n1,n2+1,n3,c1,c',c3,P,C++[z],T⟩ AN cN w0 (w'.setCell ⟨gc,1,none⟩ (.slice A' (n2+1:Nat) c')):=by
 have aA:=h.cv.s.ch.own;have cf:=h.cv.s.cf.grew aA (by decide) hg;have r1:=h.re.grew aA (by decide) hg;have l1:=h.ls.grew aA (by decide) hg;have m1:=h.nm.grew aA (by decide) hg;refine⟨CvS.chan2 h.cv hg z hp hn,r1.other _ _ (by intro k e;injection e with e;injection e with e;exact fun e2=>h.nr (e.trans e2)),h.nr,l1.other _ _ (l1.ne' cf (by decide)),m1.other _ _ (m1.ne' cf (by decide)),h.lt,(h.be.trans hb).setCell (p:=⟨gc,1,none⟩) (OwnV.obk_ge h.cv.s.cf (b:=gc) rfl).1 _,h.bn,?_⟩;have:=Ai h.sz hb.size;simpa using this
theorem Kw.tab(h:Kw B BN BS gc gr S AS nS cS ⟨A1,A2,A3,n1,n2,n3,c1,c2,c3,P,C,T⟩ AN cN w0 w){A':Option Addr}{c':Nat}(hg:Grew A3 A' w w')(z:NdT)(hp:OwnV 34 1 w' B A' (n3+1) c' ((T++[z]).flatMap tcn))(hb:Below B w w')
  (hy:OwnV 54 3 w B z.A z.n z.c (ns z.l)) (hl:z.l.length=z.n) (hz:∀ u∈z.l,NdIn u) (hq:z.n*24<=140737488351232) (hn:(n3+1)*24<=140737488351232) :
  Kw B BN BS gc gr S AS nS cS ⟨A1,A2,A',n1,n2,n3+1,c1,c2,c',P,C,T++[z]⟩ AN cN w0 (w'.setCell ⟨gc,2,none⟩ (.slice A' (n3+1:Nat) c')):=by
 have aA:=h.cv.s.tb.own;have cf:=h.cv.s.cf.grew aA (by decide) hg;have r1:=h.re.grew aA (by decide) hg;have l1:=h.ls.grew aA (by decide) hg;have m1:=h.nm.grew aA (by decide) hg;refine⟨CvS.tab2 h.cv hg z hp hy hl hz hq hn,r1.other _ _ (by intro k e;injection e with e;injection e with e;exact fun e2=>h.nr (e.trans e2)),h.nr,l1.other _ _ (l1.ne' cf (by decide)),m1.other _ _ (m1.ne' cf (by decide)),h.lt,(h.be.trans hb).setCell (p:=⟨gc,2,none⟩) (OwnV.obk_ge h.cv.s.cf (b:=gc) rfl).1 _,h.bn,?_⟩;have:=Ai h.sz hb.size;simpa using this
end
theorem P6:∀ {l:List (List UInt8)} {L:List (Int×Int)},procsP l=some L->L.length=l.length
 | [],L,h=>by injection h with h;rw[<- h];rfl
 | x::l,L,h=>by
  unfold procsP at h
  cases hx:procP x with
  | none=>rw[hx] at h;cases h
  | some q =>
   rw[hx] at h
   cases hl:procsP l with
   | none=>rw[hl] at h;cases h
   | some M =>
    rw[hl] at h
    injection h with h
    rw[<- h,Ad,Ad,P6 hl]
theorem fg{m:Nat}{x:List UInt8}(h:(valF m x).2=true):(valF m x).1<=m:=(valF_inv h).2
theorem bm{W:List (List UInt8)}{y:Pq}{N:Nat}(h:partP W=some y)(hN:∀ x∈W,x.length<=N):Ef y.1.per/\y.1.name.size<=N/\y.2.length<=N+1:=by
 unfold partP at h;split at h
 ·rename_i w1 w2 w3 w4 w5 w6;split at h
  ·rename_i hv;simp only[Au] at hv;split at h
   ·rename_i f hh L hf aA hL;injection h with h;subst h;have h3:=fg hv.2.1;have h1:=hN w1 (by simp);have h6:=hN w6 (by simp);have h7:=P6 hL;have h8:=Hw (b:=44) w6;refine⟨?_,h1,?_⟩
    ·unfold Ef lim40 at *;dsimp only;omega
    dsimp only;omega
   cases h
  cases h
 cases h
theorem Tt(W:List (List UInt8))(h:W≠[]):∃ a l,W=a::l:=by
 match W,h with
 | a::l,_=>exact⟨a,l,rfl⟩
theorem Sx(i:Nat)(c:Cft)(x:List UInt8)(l:List (List UInt8))(h:skipB x=true):linesP i c (x::l)=linesP (i+1) c l:=by
 conv=>lhs;unfold linesP
 rw[if_pos h]
theorem Sw(i:Nat)(c:Cft)(x:List UInt8)(l:List (List UInt8))(h:skipB x=false):linesP i c (x::l)=match wordsP c (splitF 32 x) with
  | none=>.inl (i+1)
  | some c'=>linesP (i+1) c' l:=by
 conv=>lhs;unfold linesP
 rw[if_neg (by rw[h];decide)]
 rfl
theorem Xt{N:List (List UInt8)}{x:List UInt8}{l:List Nd}(hN:N.length<=1048576)(h:tableR (findF N) x=some l):(∀ z∈l,NdIn z)/\l.length<=128:=by
 have h2:=tableR_S (look_known N) h;refine⟨nodeS_in (fun s p h=>Ia h) (fun s p h=>knownS_in hN h) 16 128 x (l,[]) (by omega) h2,?_⟩;unfold tableR at h;cases hr:nodeR (findF N) 16 128 x with
 | none=>rw[hr] at h;cases h
 | some y =>
  rw[hr] at h;have h:(if y.2=[] then some y.1 else none)=some l:=h;split at h
  ·injection h with h;rw[<- h];exact(nodeR_rds (findF N) 16 128 x y hr).2.1
  cases h
theorem Zx{N W:List (List UInt8)}(h:W.length≠2):tabP N W=none:=by
 unfold tabP;split
 ·exact absurd rfl h
 rfl
theorem Kw.tabB{B BN BS gc gr nS cS:Nat}{S:List (List UInt8)}{AS A1 A2 A3 AN A':Option Addr}{n1 n2 n3 c1 c2 c3 cN c':Nat}{P:List Pq}{C:List ChV}{T:List NdT}{w0 w w':World}(h:Kw B BN BS gc gr S AS nS cS ⟨A1,A2,A3,n1,n2,n3,c1,c2,c3,P,C,T⟩ AN cN w0 w)(hg:Grew A3 A' w w')(hb:Below B w w'):
  OwnV 31 3 (w'.setCell ⟨gc,2,none⟩ (.slice A' (n3+1:Nat) c')) B (some ⟨gr,0,none⟩) 1 1 [.slice none 0 0,.slice none 0 0,.slice none 0 0]/\Below B w0 (w'.setCell ⟨gc,2,none⟩ (.slice A' (n3+1:Nat) c')):=by
 have r1:=h.re.grew h.cv.s.tb.own (by decide) hg;exact⟨r1.other _ _ (by intro k e;injection e with e;injection e with e;exact fun e2=>h.nr (e.trans e2)),(h.be.trans hb).setCell (p:=⟨gc,2,none⟩) (OwnV.obk_ge h.cv.s.cf (b:=gc) rfl).1 _⟩
theorem i_pcl(y:PtV):∀ u∈pcl y,u.oneCell'=true:=kh (y,[])
theorem jo:(bsOf []).toList.isEmpty=true:=by
 have i0:((bsOf []).toList == (⟨#[]⟩:ByteArray).toList)=true:=Et (Ae (show bsOf []=(⟨#[]⟩:ByteArray) from rfl));simpa using i0
theorem W4(k:UInt8)(r:List UInt8):(bsOf (k::r)).toList.isEmpty=false:=by
 have i0:((bsOf (k::r)).toList == (⟨#[]⟩:ByteArray).toList)=false:=Et (Ac fun e=>by have:=congrArg ByteArray.size e;cases this);simpa using i0
theorem Ue{x:List UInt8}(h:skipB x=true):x=[]\/∃ r,x=35::r:=by
 unfold skipB at h;simp only[Dh,Av] at h;rcases h with h | h
 ·exact .inl h
 cases x with
 | nil=>exact .inl rfl
 | cons c r=>injection h with h;exact .inr ⟨r,by rw[h]⟩
theorem Ss{x:List UInt8}(h:skipB x=false):∃ k r,x=k::r:=by
 cases x with
 | nil=>cases h
 | cons k r=>exact⟨k,r,rfl⟩
theorem ir{k:UInt8}{r:List UInt8}(h:skipB (k::r)=false):(((k.toNat:Nat):Int) == 35)=false:=by
 rw[Ak];intro e;have hk:k=35:=Cz.1 (by show k.toNat=35;omega);subst hk;cases h
theorem Ut(s:List UInt8)(w:World)(hs:s.length<=1048576):Calls Tryz.prog 35 #[.string (bsOf s)] w (To s w):=by
 have b0:=bl1 w (.cells #[.slice none 0 0,.slice none 0 0,.slice none 0 0] 31);have o0:=D7 w 31 3 w.heap.size #[.slice none 0 0,.slice none 0 0,.slice none 0 0] 1 rfl (Ag _) (by unfold maxLen;omega);have cP:(w.alloc (.cells #[.slice none 0 0,.slice none 0 0,.slice none 0 0] 31)).heap.size=w.heap.size+1:=by simp
 have dG:(bsOf s).size=s.length:=rfl;by_cases aG:16384 < s.length
 ·have HQ:Hd (parseQ s=(3,0,cft0)):=hid (by unfold parseQ;rw[if_pos aG]);have cV:(16384:Int) < (s.length:Int):=by omega
  have HO:=hid o0;have HB:=hid b0;unfold To;obtain⟨n,hn⟩:∃ n,n=s.length:=⟨_,rfl⟩;rw[<- hn] at cV dG;generalize bsOf s=sv at dG |-;clear hs aG b0 o0 cP hn;go_in;go_upto_region 2 with fail;generalize w.alloc (.cells #[.slice none 0 0,.slice none 0 0,.slice none 0 0] 31)=w1 at HO HB |-;obtain⟨⟨cL,cK⟩,⟨cJ,cI⟩,⟨cH,cG⟩,ho,hb⟩:=Gx HO.o HB.o (Ag _);have cF:=E7 w1;have aN:=hid ho;have aO:=hid hb;clear ho hb;go_wp2_with fail;refine Be (El rfl (Fh _) (E9 _) rfl aN.o) rfl ?_;rw[HQ.o];exact⟨aO.o,cf0,rfl,CfR.zero _,Ctn.zero,OwnV.nil _ _ _ _,OwnV.nil _ _ _ _⟩
 have eC:Hd (s.length<=16384):=hid (by omega);have cV:¬ (16384:Int) < (s.length:Int):=by omega
 have aJ:Hd (∀ i,linesP 0 cft0 (splitF 10 s)=.inl i->parseQ s=(12,(i:Int),cft0)):=hid fun i h=>by rw[parse_same];unfold parseP;rw[if_neg aG,h]
 have aT:Hd (∀ c,linesP 0 cft0 (splitF 10 s)=.inr c->parseQ s=if (D5 c.P c.C c.T).1=0 then (0,0,c) else ((D5 c.P c.C c.T).1,0,cft0)):=hid fun c h=>by rw[parse_same];unfold parseP;rw[if_neg aG,h]
 obtain⟨V,hV⟩:∃ V,V=linesP 0 cft0 (splitF 10 s):=⟨_,rfl⟩;rw[<- hV] at aJ aT;unfold To;generalize parseQ s=PQ at aJ aT |-;obtain⟨W1,eU⟩:∃ W1,W1=w.alloc (.cells #[.slice none 0 0,.slice none 0 0,.slice none 0 0] 31):=⟨_,rfl⟩;rw[<- eU] at b0 o0 cP;have b1:=bl1 W1 (.cells #[.slice none 0 0,.slice none 0 0,.slice none 0 0] 31);have o1:=D7 W1 31 3 w.heap.size #[.slice none 0 0,.slice none 0 0,.slice none 0 0] 1 rfl b0.size (by unfold maxLen;omega);have dK:(W1.alloc (.cells #[.slice none 0 0,.slice none 0 0,.slice none 0 0] 31)).heap.size=w.heap.size+1+1:=by simp[cP]
 obtain⟨W2,eT⟩:∃ W2,W2=W1.alloc (.cells #[.slice none 0 0,.slice none 0 0,.slice none 0 0] 31):=⟨_,rfl⟩;rw[<- eT] at b1 o1 dK;rw[cP] at o1;have eP:CvS w.heap.size (w.heap.size+1) cf0 W2:=⟨⟨o1,⟨rfl,OwnV.nil _ _ _ _⟩,⟨rfl,OwnV.nil _ _ _ _⟩,⟨rfl,OwnV.nil _ _ _ _⟩⟩,fun y hy=>(by cases hy),fun y hy=>(by cases hy),CfC.of (CfR.zero w)⟩;have bG:=hid fun W=>Ii s 10 10 rfl W hs;have aR:Hd (∀ A n c W',OwnV 9 1 W' W2.heap.size A n c ((splitF 10 s).flatMap sc)->Below W2.heap.size W2 W'->Kw w.heap.size W'.heap.size (w.heap.size+1+1) (w.heap.size+1) w.heap.size (splitF 10 s) A n c cf0 none 0 w W'):=hid fun A n c W' hS hb=>by
  have dN:Below w.heap.size w W2:=b0.trans (b1.mono b0.size);rw[<- dK];exact⟨eP.on hb,OwnV.below (OwnV.below o0 rfl b1) rfl hb,by omega,hS,OwnV.nil _ _ _ _,fun k hk=>(OwnV.obk_ge hS hk).2,dN.trans (hb.mono dN.size),Ai dN.size hb.size,Ag _⟩
 have fC:Hd (∀ x∈splitF 10 s,x.length<=16384):=hid fun x hx=>Ai (Hv s x hx) eC.o;have dU:Hd ((splitF 10 s).length<=16385):=hid (by have:=Hw (b:=10) s;have:=eC.o;omega);subst eT;subst eU;obtain⟨n,hn⟩:∃ n,n=s.length:=⟨_,rfl⟩;rw[<- hn] at cV dG;generalize splitF 10 s=S at hV bG aR fC dU;have HV:=hid hV;clear hs aG b0 o0 cP b1 o1 dK eP hV hn eC;generalize bsOf s=sv at bG dG |-;go_in;go_wp2_with fail;refine(bG.o _).mono ?_;rintro e w3⟨AS,nS,cS,rfl,dP,eV,eW⟩;have dV:=hid (aR.o AS nS cS w3 eV eW);have fB:=hid dP;have gC:nS<=16385:=by rw[<- dP];exact dU.o
 clear dP eV eW aR bG dU;generalize eY:w3.heap.size=BN at dV;have gM:=hid eY;clear eY;go_wp2;go_loopw [6,7,8,9,10,11,12,13,22,39,57,71] (fun nm _ _ _ _ _ _ _ ix _ _ _ wr=>∃(i:Nat) (c:Cft) (x:Cf) (AN:Option Addr) (cN:Nat),nm=.slice AN (x.n1:Nat) cN/\ix=.int .i64 (i:Int)/\i<=nS/\Kw w.heap.size BN (w.heap.size+1+1) (w.heap.size+1) w.heap.size S AS nS cS x AN cN w wr/\Ctn x c/\V=linesP i c (S.drop i)/\x.n1+(x.n2+x.n3)<=i) (fun _ _ _ _ _ _ _ _ ix _ _ _ _=>nS - (intOf ix).toNat)
 case atStart=>exact⟨0,cft0,cf0,none,0,rfl,rfl,by omega,dV.o,Ctn.zero,HV.o,Ag _⟩
 obtain⟨i,c,x,AN,cN,rfl,rfl,gH,eM,eQ,hv,bS⟩:=hrel;obtain⟨A1,A2,A3,n1,n2,n3,c1,c2,c3,P,C,T⟩:=x;dsimp only at bS;have HP:=hid eM;have HX:=hid eQ;have aK:=hid bS;clear eM eQ bS dV HV;by_cases fO:i < nS
 ·have cV:(i:Int) < (nS:Int):=by omega
  obtain⟨aS,xl,rfl,fQ,hx,e0,ek⟩:=(⟨fB.o,HP.o.ls.rd⟩:RdB sc wr wr.heap.size AS nS S).at_ Fl (by omega) fO;have e0:=e0 _ rfl;rw[Cj] at e0;have eH:xl.length<=16384:=fC.o xl (An hx);have cY:S.drop i=xl::S.drop (i+1):=by
   have h1:=(Af.1 hx);rw[List.drop_eq_getElem_cons h1.1,h1.2]
  rw[cY] at hv;have dS:=hid eH;clear ek fQ hx cY eH;by_cases bD:skipB xl=true
  ·have bN:Hd (V=linesP (i+1) c (S.drop (i+1))):=hid (by rw[hv,Sx i c xl _ bD]);clear hv;have fP:xl=[]\/∃ r,xl=35::r:=Ue bD;clear bD;rcases fP with rfl | ⟨r,rfl⟩
   ·have i1:(bsOf []).toList.isEmpty=true:=jo;go_wp2;go_roundw
    case rel=>exact⟨i+1,c,⟨A1,A2,A3,n1,n2,n3,c1,c2,c3,P,C,T⟩,AN,cN,rfl,by go_num,by omega,HP.o,HX.o,bN.o,by have:=aK.o;show n1+(n2+n3)<=i+1;omega⟩
    simp[intOf];omega
   have i1:(bsOf (35::r)).toList.isEmpty=false:=W4 35 r;have dH:∀ W,(Instr.index 9 (.string (bsOf (35::r))) (.int .i64 0)).run Tryz.prog W=.ok (.int .u8 35) W:=sidx (l:=35::r) (i:=0) (c:=35) rfl;generalize bsOf (35::r)=xv at e0 i1 dH;go_wp2;go_roundw
   case rel=>exact⟨i+1,c,⟨A1,A2,A3,n1,n2,n3,c1,c2,c3,P,C,T⟩,AN,cN,rfl,by go_num,by omega,HP.o,HX.o,bN.o,by have:=aK.o;show n1+(n2+n3)<=i+1;omega⟩
   simp[intOf];omega
  have bD:skipB xl=false:=by simpa using bD
  rw[Sw i c xl _ bD] at hv;have aH:=hid hv;obtain⟨k,r,rfl⟩:=Ss bD;have i1:(bsOf (k::r)).toList.isEmpty=false:=W4 k r;obtain⟨kb,dM⟩:∃ b:Nat,b=k.toNat:=⟨_,rfl⟩;have dH:∀ W,(Instr.index 9 (.string (bsOf (k::r))) (.int .i64 0)).run Tryz.prog W=.ok (.int .u8 (kb:Int)) W:=by rw[dM];exact sidx (l:=k::r) (i:=0) (c:=k) rfl
  have i2:((kb:Int) == 35)=false:=by rw[dM];exact ir bD
  have bG:=hid (Ii (k::r) 32 32 rfl wr (by have:=dS.o;omega));have bM:Hd (∀ x∈splitF 32 (k::r),x.length<=16384):=hid fun x hx=>Ai (Hv _ x hx) dS.o;have dT:Hd ((splitF 32 (k::r)).length<=16385):=hid (by have:=Hw (b:=32) (k::r);have:=dS.o;omega);obtain⟨wd,ws,eI⟩:=Tt _ (split_ne 32 (k::r));have bE:=hid eI;generalize splitF 32 (k::r)=WW at aH bG bM dT bE;generalize bsOf (k::r)=xv at e0 i1 dH bG;clear dM bD hv eI;go_wp2_with fail;refine bG.o.mono ?_;rintro e w4⟨AW,nW,cW,rfl,cZ,dO,eS⟩;have aB:=hid (HP.o.on eS);have gB:nW<=16385:=by rw[<- cZ];exact dT.o
  have bQ:RdB sc w4 w4.heap.size AW nW WW:=⟨cZ,dO.rd⟩;have fR:0 < nW:=by rw[<- cZ,bE.o];simp
  obtain⟨aW,fH,rfl,_,dF,d0,_⟩:=bQ.at_ Fl (by omega) fR;have dF:wd=fH:=by rw[bE.o] at dF;injection dF
  subst dF;have d0:=d0 _ rfl;rw[Nat.zero_mul,show aW.add 0=aW from by unfold Addr.add;rw[if_pos rfl]] at d0;have aQ:Hd (WW.head? = some wd):=hid (by rw[bE.o];rfl);have q1:((bsOf wd).toList == [112,97,114,116])=decide (wd=wPart):=Hb _ _ j9;have q2:((bsOf wd).toList == [99,104,97,110])=decide (wd=wChan):=Hb _ _ kd;have q3:((bsOf wd).toList == [116,97,98,108,101])=decide (wd=wTable):=Hb _ _ cw;have bT:=hid dO;have bF:=hid cZ;clear eS dO cZ HP bG dT e0 i1 i2 dH;by_cases hp:wd=wPart
  ·have p1:((bsOf wd).toList == [112,97,114,116])=true:=by rw[q1,Ae hp]
   have aD:Hd (wordsP c WW=(partP WW).map fun p=>⟨c.P++[p],c.C,c.T⟩):=hid (by unfold wordsP;rw[if_pos (by rw[aQ.o,hp])]);have aC:=bl1 w4 (.cells #[.string ⟨#[]⟩,.int .i64 0,.int .i64 0,.bool false,.bool false,.slice none 0 0,.int .i64 0,.int .i64 0,.int .i64 0,.int .i64 0,.int .i64 0] 60);have o5:=D7 w4 60 11 w4.heap.size #[.string ⟨#[]⟩,.int .i64 0,.int .i64 0,.bool false,.bool false,.slice none 0 0,.int .i64 0,.int .i64 0,.int .i64 0,.int .i64 0,.int .i64 0] 1 rfl (Ag _) (by unfold maxLen;omega);have eG:(w4.alloc (.cells #[.string ⟨#[]⟩,.int .i64 0,.int .i64 0,.bool false,.bool false,.slice none 0 0,.int .i64 0,.int .i64 0,.int .i64 0,.int .i64 0,.int .i64 0] 60)).heap.size=w4.heap.size+1:=by simp
   have dX:=hid (Um (some aW) nW cW WW _ ⟨bF.o,(bT.o.below rfl aC).rd⟩ (by omega) (fun x hx=>by have:=bM.o x hx;omega));have bJ:=hid o5;have aY:=hid aC;clear q1 q2 q3 hp o5 aC bT bF bQ bE;generalize bsOf wd=sv at d0 p1;go_wp2_with fail;generalize w4.alloc (.cells #[.string ⟨#[]⟩,.int .i64 0,.int .i64 0,.bool false,.bool false,.slice none 0 0,.int .i64 0,.int .i64 0,.int .i64 0,.int .i64 0,.int .i64 0] 60)=w5 at eG dX bJ aY |-;refine dX.o.mono ?_;rintro e w6⟨bA,y,L,rfl,dL,cR⟩;have bV:=hid cR;have bO:=hid (OwnV.below bJ.o rfl bA);have bK:=hid (aY.o.trans (bA.mono aY.o.size));have dY:=hid dL;have fF:Hd (L.length=y.pn):=hid (by have h1:=dL.len;have h2:∀ M:List (Int×Int),(M.flatMap prc).length=M.length*2:=(fun M=>by induction M with | nil=>rfl | cons q M ih=>rw[Cu,Aa,ih];show 2+_=_;simp only[Ad];omega);rw[h2] at h1;omega);clear cR bA dL dX bJ aY d0 p1;generalize cD:w4.heap.size=gp at bO bK eG |-;have bZ:=hid cD;clear cD;obtain⟨bC,bR⟩:∃ b,b=(partP WW).isSome:=⟨_,rfl⟩;rw[<- bR];have bI:=hid bR;clear bR;go_upto_region 15 with (refine wpList_storeX (l:=pcl y) rfl (.tmp 11) (.tmp 44) rfl rfl rfl (sz_part _) bO.o rfl (i_pcl y) fun w7 aZ cE=>?_);have dE:Hd (Below w4.heap.size w4 w7):=hid (by rw[bZ.o];exact bK.o.trans (Fq cE (Ag _) (bZ.o▸bK.o.size)));have cU:=OwnV.gbo dY.o cE (fun e=>OwnV.apart dY.o bO.o (by decide) gp e rfl);have aM:=hid ((aB.o.on dE.o).on (Aj _ _).drew);have HG:=hid (OwnV.below aZ rfl (Aj _ _).drew);have bW:Hd (OwnV 62 2 w7.drew w.heap.size y.pa y.pn y.pc (L.flatMap prc)):=hid (OwnV.below (OwnV.weak cU (by have:=aB.o.sz;have:=aB.o.bn;have:=bZ.o;omega)) rfl (Aj _ _).drew);have eD:Hd (∀ k,obk (some ⟨gp,0,none⟩)=some k->¬ (k=w.heap.size+1\/obk A1=some k\/obk AN=some k)):=hid fun k hk hs=>by
    injection hk with hk;have cD:=bZ.o;rcases hs with e | e | e
    ·have:=(OwnV.obk_ge aB.o.cv.s.cf (b:=w.heap.size+1) rfl).2;dsimp only at hk;omega
    ·have:=(OwnV.obk_ge aB.o.cv.s.pp.own e).2;dsimp only at hk;omega
    have:=(OwnV.obk_ge aB.o.nm e).2;dsimp only at hk;omega
   clear aZ cE cU bO bK dY dE aB;have eF:Hd (w.heap.size<=w7.drew.heap.size):=hid (Ai aM.o.bn aM.o.sz);have cA:Hd (BN<=w7.drew.heap.size):=hid aM.o.sz;generalize dI:w7.drew=W0 at aM HG bW eF cA;refine Rgs.region (w0:=w7) (by kernel_rfl) (by kernel_rfl) (fun(fJ:Nat) (vl:Value) (_:World)=>match fJ with | 0=>vl=.pointer (some ⟨w.heap.size+1,0,none⟩) | 1=>vl=.slice A1 n1 c1 | 2=>vl=.agg #[.string y.name,.int .i64 y.bud,.int .i64 y.per,.bool y.sched,.bool y.stop,.slice y.pa y.pn y.pc,.int .i64 y.h0,.int .i64 y.h1,.int .i64 y.h2,.int .i64 y.h3,.int .i64 y.h4] | 5=>vl=.slice AN n1 cN | 6=>vl=.pointer (some ⟨gp,0,none⟩) | 7=>vl=.string y.name | 10=>vl=.pointer (some ⟨w.heap.size+1,0,none⟩) | _=>True) (TwS w.heap.size BN w.heap.size (w.heap.size+1) [.slice A1 n1 c1,.slice A2 n2 c2,.slice A3 n3 c3] A1 n1 c1 (P.flatMap pcq) (pcl y) AN n1 cN ((namesP P).flatMap sc) (.string y.name) W0) (dI▸⟨KpS.refl _,fun _=>dI▸aM.o.cv.s.pp.own,fun e=>absurd e (by decide),fun e=>absurd e (by decide),fun _=>dI▸aM.o.cv.s.cf,fun _=>dI▸aM.o.nm,fun e=>absurd e (by decide),fun e=>absurd e (by decide),fun _=>rfl⟩) (Rgs.steps_of ?_) ?_
   ·refine⟨?_,?_,?_,?_,?_,?_,?_,?_,?_,?_,?_,?_,?_,trivial⟩<;>intro a w1 live SZ E D C' h0 hk hW
    ·have e5:a.eval _=.pointer (some ⟨w.heap.size+1,0,none⟩):=E 5 rfl;exact Dw hW.up
    ·have d0:_=_:=rgsDe D 0;have cO:=D3 C' h0 [4] 11 rfl;have hc:=(Dz (hW.c0 cO) 0 _ rfl).1;exact Dw hW.up
    ·have fA:a.eval _=.pointer (some ⟨gp,0,none⟩):=E 11 rfl;have aV:=Fz (ag_part w1) (sz_part w1) (hW.kp.own HG.o eD.o);have hs:(Instr.loadAt 60 (.pointer (some ⟨gp,0,none⟩))).run Tryz.prog w1=.ok (.agg #[.string y.name,.int .i64 y.bud,.int .i64 y.per,.bool y.sched,.bool y.stop,.slice y.pa y.pn y.pc,.int .i64 y.h0,.int .i64 y.h1,.int .i64 y.h2,.int .i64 y.h3,.int .i64 y.h4]) w1:=by
      unfold Instr.loadAt;exact aV
     exact Rgs.va (.agg #[.string y.name,.int .i64 y.bud,.int .i64 y.per,.bool y.sched,.bool y.stop,.slice y.pa y.pn y.pc,.int .i64 y.h0,.int .i64 y.h1,.int .i64 y.h2,.int .i64 y.h3,.int .i64 y.h4]) (hW.upd 2 48 _) (by generalize a.eval=ρ at *;simp only[execOp,Sem.run_bind,Sem.run_pure,At,fA,hs])
    ·have d2:_=_:=rgsDe D 2;have l4:=D3 C' h0 [] 4 rfl;have cO:=D3 C' l4 [] 11 rfl;have aX:=hW.litP l4 cO rfl (by rw[SZ];exact(by decide:49 < 103));refine Fd (.slice (some ⟨w1.heap.size,0,none⟩) 1 1) (w1.alloc (.cells #[.string y.name,.int .i64 y.bud,.int .i64 y.per,.bool y.sched,.bool y.stop,.slice y.pa y.pn y.pc,.int .i64 y.h0,.int .i64 y.h1,.int .i64 y.h2,.int .i64 y.h3,.int .i64 y.h4] 60)) trivial aX (fun j v _ h=>h) ?_;have c:=Reg.consts a;generalize a.eval=ρ at *;simp[execOp,go_sem,c.1,c.2,d2]
    ·have d1:_=_:=rgsDe D 1;have cO:=D3 C' h0 [] 11 rfl;have lb:live 3=true:=hk 3 rfl;obtain⟨gb,qb,A',c',w',aV,aX⟩:=hW.appP lb h0 cO rfl (i_pcl y) (by have:=aK.o;omega) eF.o (by rw[SZ];exact(by decide:50 < 103));refine Fd (.slice A' (n1+1:Nat) c') w' trivial aX (fun j v _ h=>h) ?_;have cc:=Reg.consts a;generalize a.eval=ρ at *;simp only[execOp,resolve,invoke,builtin,Sem.run_bind,Sem.run_pure,At,Cs,Cp,Da,d1,qb,aV]
    ·have dJ:=D3 C' h0 [9] 12 rfl;have e6:=hW.t6 dJ;exact Dw hW.up
    ·have fA:a.eval _=.pointer (some ⟨gp,0,none⟩):=E 11 rfl;exact Dw hW.up
    ·have d6:_=_:=rgsDe D 6;have hc:=(Dz (hW.kp.own HG.o eD.o) 0 _ rfl).1;exact Dw hW.up
    ·have d7:_=_:=rgsDe D 7;have l9:=D3 C' h0 [] 9 rfl;have aX:=hW.litN l9 (by rw[SZ];exact(by decide:54 < 103));refine Fd (.slice (some ⟨w1.heap.size,0,none⟩) 1 1) (w1.alloc (.cells #[.string y.name] 9)) trivial aX (fun j v _ h=>h) ?_;have c:=Reg.consts a;generalize a.eval=ρ at *;simp[execOp,go_sem,c.1,c.2,d7]
    ·have d5:_=_:=rgsDe D 5;have dJ:=D3 C' h0 [] 12 rfl;have lb:live 8=true:=hk 8 rfl;obtain⟨gb,qb,A',c',w',aV,aX⟩:=hW.appN lb h0 dJ rfl (by have:=aK.o;omega) cA.o (by rw[SZ];exact(by decide:55 < 103));refine Fd (.slice A' (n1+1:Nat) c') w' trivial aX (fun j v _ h=>h) ?_;have cc:=Reg.consts a;generalize a.eval=ρ at *;simp only[execOp,resolve,invoke,builtin,Sem.run_bind,Sem.run_pure,At,Cs,Cp,Da,d5,qb,aV]
    ·have e5:a.eval _=.pointer (some ⟨w.heap.size+1,0,none⟩):=E 5 rfl;exact Dw hW.up
    ·have gK:_=_:=rgsDe D 10;have la:live 4=true:=hk 4 rfl;obtain⟨A',c',qa,aX⟩:=hW.put la h0 rfl;have hc:=Dz (hW.c0 h0) 0 _ rfl;have gJ:=hc.1;have gI:=hc.2;exact Jc (w1.setCell ⟨w.heap.size+1,0,none⟩ (.slice A' (n1+1:Nat) c')) trivial aX (fun j v _ h=>h)
    have la:live 9=true:=hk 9 rfl;obtain⟨A',c',qa,aX⟩:=hW.asg la (by rw[SZ];exact(by decide:6 < 103));exact K9 (.slice A' (n1+1:Nat) c') trivial aX
   intro a w9 live hs hd E Dv Hl hW;obtain⟨eL,eR,A',c',fX,fS,q6,cX⟩:=TwS.fin aM.o hW ⟨Hl 4 (by decide),Hl 11 (by decide),Hl 9 (by decide),Hl 12 (by decide)⟩;have fU:=hid eL;have fW:=hid eR;have fG:=hid (cX L bW.o);rw[Rgs.act_ws a _ _ hs hd E [6,46,47,48,49,50,51,52,53,54,55,56] (by kernel_rfl)];simp only[List.foldl,Bg,Bv,Bp];rw[q6];clear eL eR cX q6 E Dv Hl hW aM HG eD bW eF cA;generalize a.eval=ρ9;clear a hs hd;cases bC with
   | false =>
    have aL:partP WW=none:=by
     cases h:partP WW with
     | none=>rfl
     | some z=>have:=bI.o;rw[h] at this;cases this
    have HQ:=hid (aJ.o (i+1) (by rw[aH.o,aD.o,aL];rfl));clear aL aJ aT aH aD bI bV;obtain⟨⟨cL,cK⟩,⟨cJ,cI⟩,⟨cH,cG⟩,ho,hb⟩:=Gx fU.o fW.o (Ag _);have cF:=E7 w9;have aN:=hid ho;have aO:=hid hb;clear ho hb;go_wp2_with fail;refine Be (El rfl (Fh _) (E9 _) rfl aN.o) rfl ?_;rw[HQ.o];exact⟨aO.o,cf0,rfl,CfR.zero _,Ctn.zero,OwnV.nil _ _ _ _,OwnV.nil _ _ _ _⟩
   | true =>
    obtain⟨z,hz⟩:∃ z,partP WW=some z:=by
     cases h:partP WW with
     | none=>have:=bI.o;rw[h] at this;cases this
     | some z=>exact⟨z,rfl⟩
    obtain⟨y1,y2⟩:=bV.o z hz;obtain⟨z1,z2,z3⟩:=bm (N:=16384) hz bM.o;rw[y1] at z3;rw[y2] at z1 z2;have eX:=fG.o ⟨z1,by dsimp only at z2;omega,(show L.length=y.pn from fF.o),by have:=(show L.length=y.pn from fF.o);omega⟩ (by have:=aK.o;omega);have bB:=hid eX;have dA:Hd (Ctn ⟨A',A2,A3,n1+1,n2,n3,c',c2,c3,P++[(y,L)],C,T⟩ ⟨c.P++[z],c.C,c.T⟩):=hid (by
     refine⟨?_,HX.o.ec,HX.o.et⟩;show (P++[(y,L)]).map Ec=c.P++[z];rw[De,show P.map Ec=c.P from HX.o.ep];congr 1;obtain⟨fZ,fY⟩:=z;dsimp only at y1 y2;subst y1;subst y2;rfl)
    have bN:Hd (V=linesP (i+1) ⟨c.P++[z],c.C,c.T⟩ (S.drop (i+1))):=hid (by rw[aH.o,aD.o,hz];rfl);clear hz y1 y2 z1 z2 z3 eX aJ aT aH aD bI bV fG;go_wp2;go_roundw
    case rel=>exact⟨i+1,_,_,fX,fS,rfl,by go_num,by omega,bB.o,dA.o,bN.o,by have:=aK.o;show n1+1+(n2+n3)<=i+1;omega⟩
    simp[intOf];omega
  have p1:((bsOf wd).toList == [112,97,114,116])=false:=by rw[q1,Ac hp]
  by_cases hc:wd=wChan
  ·have p2:((bsOf wd).toList == [99,104,97,110])=true:=by rw[q2,Ae hc]
   have aD:Hd (wordsP c WW=(chanP (namesP P) WW).map fun x=>⟨c.P,c.C++[x],c.T⟩):=hid (by
    unfold wordsP;rw[if_neg (by rw[aQ.o];exact fun e=>hp (C7 e)),if_pos (by rw[aQ.o,hc]),<- HX.o.names])
   have aC:=bl1 w4 (.cells #[.int .i64 0,.int .i64 0,.bool false,.int .i64 0,.int .u32 0,.int .i64 0] 66);have o5:=D7 w4 66 6 w4.heap.size #[.int .i64 0,.int .i64 0,.bool false,.int .i64 0,.int .u32 0,.int .i64 0] 1 rfl (Ag _) (by unfold maxLen;omega);have gF:n1<=16385:=by have:=aK.o;omega
   have dZ:=hid (Un (some aW) nW cW WW AN n1 cN (namesP P) _ ⟨bF.o,(bT.o.below rfl aC).rd⟩ ⟨by unfold namesP;rw[Bi];exact aB.o.cv.s.pp.len,(aB.o.nm.below rfl aC).rd⟩ (by omega) (by omega) (fun x hx=>by have:=bM.o x hx;omega));have bJ:=hid o5;have aY:=hid aC;clear q1 q2 q3 hp hc o5 aC bT bF bQ bE;generalize bsOf wd=sv at d0 p1 p2;go_wp2_with fail;generalize w4.alloc (.cells #[.int .i64 0,.int .i64 0,.bool false,.int .i64 0,.int .u32 0,.int .i64 0] 66)=w5 at dZ bJ aY |-;refine dZ.o.mono ?_;rintro e w6⟨bA,z,rfl,cR⟩;have bV:=hid cR;have bO:=hid (OwnV.below bJ.o rfl bA);have bK:=hid (aY.o.trans (bA.mono aY.o.size));clear cR bA dZ bJ aY d0 p1 p2;generalize cD:w4.heap.size=gp at bO bK |-;have bZ:=hid cD;clear cD;obtain⟨bC,bR⟩:∃ b,b=(chanP (namesP P) WW).isSome:=⟨_,rfl⟩;rw[<- bR];have bI:=hid bR;clear bR;go_upto_region 19 with (refine wpList_storeX (l:=cc z) rfl (.tmp 12) (.tmp 63) rfl rfl rfl (sz_chan _) bO.o rfl (i_cc z) fun w7 aZ cE=>?_);have dE:Hd (Below w4.heap.size w4 w7):=hid (by rw[bZ.o];exact bK.o.trans (Fq cE (Ag _) (bZ.o▸bK.o.size)));have aM:=hid (aB.o.on dE.o);have r0:=(Dz aZ 0 _ rfl).1;have r1:=(Dz aZ 1 _ rfl).1;have r2:=(Dz aZ 2 _ rfl).1;have r3:=(Dz aZ 3 _ rfl).1;have r4:=(Dz aZ 4 _ rfl).1;have r5:=(Dz aZ 5 _ rfl).1;have y1:=(Dz aM.o.cv.s.cf 1 _ rfl).1;have aP:=bl1 w7 (.cells #[.int .i64 z.from_,.int .i64 z.to_,.bool z.queue,.int .i64 z.cap,.int .u32 z.max,.int .i64 z.late] 66);have aA:=aM.o.cv.s.ch.own.below rfl aP;have bL:=rdV_new w7 #[.int .i64 z.from_,.int .i64 z.to_,.bool z.queue,.int .i64 z.cap,.int .u32 z.max,.int .i64 z.late] 66 ([z].flatMap cc) rfl;have aE:=hid (aM.o.on aP);have aF:w.heap.size<=(w7.alloc (.cells #[.int .i64 z.from_,.int .i64 z.to_,.bool z.queue,.int .i64 z.cap,.int .u32 z.max,.int .i64 z.late] 66)).heap.size:=Ai aE.o.bn aE.o.sz;have aR:=hid fun A5 w5 (hg:Grew A2 A5 (w7.alloc (.cells #[.int .i64 z.from_,.int .i64 z.to_,.bool z.queue,.int .i64 z.cap,.int .u32 z.max,.int .i64 z.late] 66)) w5)=>Dz (OwnV.grew aE.o.cv.s.cf aA (by decide) hg) 1 _ rfl;have dC:=hid fun A5 c5 w5 (ho:OwnV 66 6 w5 w.heap.size A5 (n2+1) c5 ((C++[z]).flatMap cc)) (hb:Below w.heap.size (w7.alloc (.cells #[.int .i64 z.from_,.int .i64 z.to_,.bool z.queue,.int .i64 z.cap,.int .u32 z.max,.int .i64 z.late] 66)) w5) (hg:Grew A2 A5 (w7.alloc (.cells #[.int .i64 z.from_,.int .i64 z.to_,.bool z.queue,.int .i64 z.cap,.int .u32 z.max,.int .i64 z.late] 66)) w5)=>aE.o.chan hg z ho hb (by have:=aK.o;omega);have gE:n2<=16385:=by have:=aK.o;omega
   clear aZ cE bO bK dE aB aP;go_upto_region 25 with (at_builtin;go_loud (refine Ea jb rfl (.tmp 66) (.tmp 68) rfl rfl w.heap.size A2 n2 c2 _ rfl aA _ 1 1 _ _ rfl bL rfl Cv (Vt [z]) (by omega) (by unfold maxLen;omega) aF (n2+1) rfl ((C++[z]).flatMap cc) (by rw[Bu]) ?_;intro A5 c5 w5 bP aC aI;obtain⟨z5,cM⟩:=aR.o A5 w5 aI));have bB:=hid (dC.o A5 c5 w5 bP aC aI);clear dC aR aF bL aA r0 r1 r2 r3 r4 r5 y1 bP aC aI z5 cM aE aM;generalize w5.setCell ⟨w.heap.size+1,1,none⟩ (.slice A5 (n2+1:Nat) c5)=w9 at bB |-;cases bC with
   | false =>
    have aL:chanP (namesP P) WW=none:=by
     cases h:chanP (namesP P) WW with
     | none=>rfl
     | some z=>have:=bI.o;rw[h] at this;cases this
    have HQ:=hid (aJ.o (i+1) (by rw[aH.o,aD.o,aL];rfl));clear aL aJ aT aH aD bI bV;obtain⟨⟨cL,cK⟩,⟨cJ,cI⟩,⟨cH,cG⟩,ho,hb⟩:=Gx bB.o.re bB.o.be (Ag _);have cF:=E7 w9;have aN:=hid ho;have aO:=hid hb;clear ho hb;go_wp2_with fail;refine Be (El rfl (Fh _) (E9 _) rfl aN.o) rfl ?_;rw[HQ.o];exact⟨aO.o,cf0,rfl,CfR.zero _,Ctn.zero,OwnV.nil _ _ _ _,OwnV.nil _ _ _ _⟩
   | true =>
    obtain⟨q,hq⟩:∃ q,chanP (namesP P) WW=some q:=by
     cases h:chanP (namesP P) WW with
     | none=>have:=bI.o;rw[h] at this;cases this
     | some z=>exact⟨z,rfl⟩
    have fN:=bV.o q hq;subst fN;have dA:Hd (Ctn ⟨A1,A5,A3,n1,n2+1,n3,c1,c5,c3,P,C++[q],T⟩ ⟨c.P,c.C++[q],c.T⟩):=hid ⟨HX.o.ep,by show C++[q]=c.C++[q];rw[show C=c.C from HX.o.ec],HX.o.et⟩;have bN:Hd (V=linesP (i+1) ⟨c.P,c.C++[q],c.T⟩ (S.drop (i+1))):=hid (by rw[aH.o,aD.o,hq];rfl);clear hq aJ aT aH aD bI bV;go_wp2;go_roundw
    case rel=>exact⟨i+1,_,_,AN,cN,rfl,by go_num,by omega,bB.o,dA.o,bN.o,by have:=aK.o;show n1+(n2+1+n3)<=i+1;omega⟩
    simp[intOf];omega
  have p2:((bsOf wd).toList == [99,104,97,110])=false:=by rw[q2,Ac hc]
  by_cases ht:wd=wTable
  ·have p3:((bsOf wd).toList == [116,97,98,108,101])=true:=by rw[q3,Ae ht]
   have aD:Hd (wordsP c WW=(tabP (namesP P) WW).map fun t=>⟨c.P,c.C,c.T++[t]⟩):=hid (by
    unfold wordsP;rw[if_neg (by rw[aQ.o];exact fun e=>hp (C7 e)),if_neg (by rw[aQ.o];exact fun e=>hc (C7 e)),if_pos (by rw[aQ.o,ht]),<- HX.o.names])
   have gD:n3<=16385:=by have:=aK.o;omega
   clear q1 q2 q3 hp hc ht;generalize bsOf wd=sv at d0 p1 p2 p3;by_cases h2:nW=2
   ·subst h2;obtain⟨wa,w1,rfl⟩:=Zp bF.o;obtain⟨fT,fI,eZ,_,dQ,d1,_⟩:=bQ.at_ Fl (by omega) (show 1 < 2 by omega);obtain rfl:aW=fT:=by injection eZ
    have dQ:w1=fI:=by injection dQ
    subst dQ;have d1:=d1 _ rfl;rw[Cj,show aW.add 1=⟨aW.block,aW.off+1,none⟩ from by unfold Addr.add;rw[if_neg (by omega)]] at d1;have cC:(namesP P).length=n1:=by unfold namesP;rw[Bi];exact aB.o.cv.s.pp.len
    have dB:=hid (Nv AN n1 cN false (namesP P) w1 w4 ⟨cC,aB.o.nm.rd⟩ (by have:=aK.o;omega) (by have:=bM.o w1 (by simp);omega));rw[show lookF false (namesP P)=findF (namesP P) from rfl] at dB;have fE:Hd ((namesP P).length<=1048576):=hid (by have:=aK.o;omega);have eK:tabP (namesP P) [wa,w1]=(tableR (findF (namesP P)) w1).map ndT0:=rfl;rw[eK] at aD;have fD:=hid fun l (h:tableR (findF (namesP P)) w1=some l)=>Xt fE.o h;clear eK cC eZ bT bF bQ bE bM aQ fE;generalize bsOf w1=gA at d1 dB;generalize tableR (findF (namesP P)) w1=RT at dB aD fD;go_wp2_with fail;refine dB.o.mono ?_;rintro e w6⟨bA,hm⟩;obtain⟨AT,l,cT,bC,he,eN,cQ,aL⟩:∃(AT:Option Addr) (l:List Nd) (cT:Nat) (bC:Bool),e=.returned (.tuple #[.slice AT l.length cT,.bool bC])/\OwnV 54 3 w6 w4.heap.size AT l.length cT (ns l)/\(bC=true->RT=some l)/\(bC=false->RT=none):=by
     cases RT with
     | none=>exact⟨none,[],0,false,hm,OwnV.nil _ _ _ _,(fun e=>by cases e),fun _=>rfl⟩
     | some l =>
      obtain⟨A,c,h1,h2⟩:=hm;exact⟨A,l,c,true,h1,h2,(fun _=>rfl),fun e=>by cases e⟩
    subst he;have bH:=hid (aB.o.on bA);have fV:=hid (OwnV.weak eN (Ai aB.o.bn aB.o.sz));have dR:=hid cQ;have eB:=hid aL;obtain⟨nl,cC⟩:∃ k,k=l.length:=⟨_,rfl⟩;rw[<- cC];have bY:=hid cC;clear hm eN cQ aL bA dB d0 d1 p1 p2 p3 aB cC;have y2:=(Dz bH.o.cv.s.cf 2 _ rfl).1;have aP:=bl1 w6 (.cells #[.slice AT nl cT] 34);have aA:=bH.o.cv.s.tb.own.below rfl aP;have bL:=rdV_new w6 #[.slice AT nl cT] 34 [.slice AT nl cT] rfl;have aE:=hid (bH.o.on aP);have aF:w.heap.size<=(w6.alloc (.cells #[.slice AT nl cT] 34)).heap.size:=Ai aE.o.bn aE.o.sz;have aR:=hid fun A5 w5 (hg:Grew A3 A5 (w6.alloc (.cells #[.slice AT nl cT] 34)) w5)=>Dz (OwnV.grew aE.o.cv.s.cf aA (by decide) hg) 2 _ rfl;have dD:=hid fun A5 c5 w5 (hb:Below w.heap.size (w6.alloc (.cells #[.slice AT nl cT] 34)) w5) (hg:Grew A3 A5 (w6.alloc (.cells #[.slice AT nl cT] 34)) w5)=>aE.o.tabB (c':=c5) hg hb;have dC:=hid fun A5 c5 w5 (ho:OwnV 34 1 w5 w.heap.size A5 (n3+1) c5 (T.flatMap tcn++[.slice AT nl cT])) (hb:Below w.heap.size (w6.alloc (.cells #[.slice AT nl cT] 34)) w5) (hg:Grew A3 A5 (w6.alloc (.cells #[.slice AT nl cT] 34)) w5) (hz:(∀ u∈l,NdIn u)/\l.length<=128)=>aE.o.tab hg ⟨AT,nl,cT,l⟩ (by rw[Bu];exact ho) hb (OwnV.below (by rw[bY.o];exact fV.o) rfl aP) bY.o.symm hz.1 (by have:=hz.2;have:=bY.o;show nl*24<=_;omega) (by have:=aK.o;omega);clear aP;go_upto_region 25 with (at_builtin;go_loud (refine Ea ja rfl (.tmp 85) (.tmp 87) rfl rfl w.heap.size A3 n3 c3 _ rfl aA _ 1 1 _ _ rfl bL rfl Cv (by intro u hu;rw[Cc.1 hu];rfl) (by omega) (by unfold maxLen;omega) aF (n3+1) rfl _ rfl ?_;intro A5 c5 w5 bP aC aI;obtain⟨z5,cM⟩:=aR.o A5 w5 aI));have bX:=hid (dD.o A5 c5 w5 aC aI);have bB:=hid (dC.o A5 c5 w5 bP aC aI);clear dC dD aR aF bL aA y2 bP aC aI z5 cM aE bH;generalize w5.setCell ⟨w.heap.size+1,2,none⟩ (.slice A5 (n3+1:Nat) c5)=w9 at bB bX |-;cases bC with
    | false =>
     have HQ:=hid (aJ.o (i+1) (by rw[aH.o,aD.o,eB.o rfl];rfl));clear eB dR aJ aT aH aD;obtain⟨⟨cL,cK⟩,⟨cJ,cI⟩,⟨cH,cG⟩,ho,hb⟩:=Gx bX.o.1 bX.o.2 (Ag _);have cF:=E7 w9;have aN:=hid ho;have aO:=hid hb;clear ho hb;go_wp2_with fail;refine Be (El rfl (Fh _) (E9 _) rfl aN.o) rfl ?_;rw[HQ.o];exact⟨aO.o,cf0,rfl,CfR.zero _,Ctn.zero,OwnV.nil _ _ _ _,OwnV.nil _ _ _ _⟩
    | true =>
     have hy:=dR.o rfl;have dW:=hid (bB.o (fD.o l hy));have dA:Hd (Ctn ⟨A1,A2,A5,n1,n2,n3+1,c1,c2,c5,P,C,T++[⟨AT,nl,cT,l⟩]⟩ ⟨c.P,c.C,c.T++[ndT0 l]⟩):=hid (by
      refine⟨HX.o.ep,HX.o.ec,?_⟩;show (T++[(⟨AT,nl,cT,l⟩:NdT)]).map (fun t:NdT=>ndT0 t.l)=c.T++[ndT0 l];rw[De,show T.map (fun t:NdT=>ndT0 t.l)=c.T from HX.o.et];rfl)
     have bN:Hd (V=linesP (i+1) ⟨c.P,c.C,c.T++[ndT0 l]⟩ (S.drop (i+1))):=hid (by rw[aH.o,aD.o,hy];rfl);clear hy bB eB dR aJ aT aH aD;go_wp2;go_roundw
     case rel=>exact⟨i+1,_,_,AN,cN,rfl,by go_num,by omega,dW.o,dA.o,bN.o,by have:=aK.o;show n1+(n2+(n3+1))<=i+1;omega⟩
     simp[intOf];omega
   have i3:((nW:Int) == 2)=false:=Ak.2 (by omega);have aL:tabP (namesP P) WW=none:=Zx (by rw[bF.o];exact h2);have HQ:=hid (aJ.o (i+1) (by rw[aH.o,aD.o,aL];rfl));have bH:=aB;clear aL aJ aT aH aD bT bF bQ bE bM aQ aB;have y2:=(Dz bH.o.cv.s.cf 2 _ rfl).1;have aP:=bl1 w4 (.cells #[.slice none 0 0] 34);have aA:=bH.o.cv.s.tb.own.below rfl aP;have bL:=rdV_new w4 #[.slice none 0 0] 34 [.slice none 0 0] rfl;have aE:=hid (bH.o.on aP);have aF:w.heap.size<=(w4.alloc (.cells #[.slice none 0 0] 34)).heap.size:=Ai aE.o.bn aE.o.sz;have aR:=hid fun A5 w5 (hg:Grew A3 A5 (w4.alloc (.cells #[.slice none 0 0] 34)) w5)=>Dz (OwnV.grew aE.o.cv.s.cf aA (by decide) hg) 2 _ rfl;have dD:=hid fun A5 c5 w5 (hb:Below w.heap.size (w4.alloc (.cells #[.slice none 0 0] 34)) w5) (hg:Grew A3 A5 (w4.alloc (.cells #[.slice none 0 0] 34)) w5)=>aE.o.tabB (c':=c5) hg hb;clear aP;go_upto_region 25 with (at_builtin;go_loud (refine Ea ja rfl (.tmp 85) (.tmp 87) rfl rfl w.heap.size A3 n3 c3 _ rfl aA _ 1 1 _ _ rfl bL rfl Cv (by intro u hu;rw[Cc.1 hu];rfl) (by omega) (by unfold maxLen;omega) aF (n3+1) rfl _ rfl ?_;intro A5 c5 w5 bP aC aI;obtain⟨z5,cM⟩:=aR.o A5 w5 aI));have bX:=hid (dD.o A5 c5 w5 aC aI);clear dD aR aF bL aA y2 bP aC aI z5 cM aE bH;generalize w5.setCell ⟨w.heap.size+1,2,none⟩ (.slice A5 (n3+1:Nat) c5)=w9 at bX |-;obtain⟨⟨cL,cK⟩,⟨cJ,cI⟩,⟨cH,cG⟩,ho,hb⟩:=Gx bX.o.1 bX.o.2 (Ag _);have cF:=E7 w9;have aN:=hid ho;have aO:=hid hb;clear ho hb;go_wp2_with fail;refine Be (El rfl (Fh _) (E9 _) rfl aN.o) rfl ?_;rw[HQ.o];exact⟨aO.o,cf0,rfl,CfR.zero _,Ctn.zero,OwnV.nil _ _ _ _,OwnV.nil _ _ _ _⟩
  have p3:((bsOf wd).toList == [116,97,98,108,101])=false:=by rw[q3,Ac ht]
  have aL:wordsP c WW=none:=Ki (by rw[aQ.o];exact fun e=>hp (C7 e)) (by rw[aQ.o];exact fun e=>hc (C7 e)) (by rw[aQ.o];exact fun e=>ht (C7 e)) c;have HQ:=hid (aJ.o (i+1) (by rw[aH.o,aL]));clear q1 q2 q3 hp hc ht aL aJ aT aH bT bF bQ bE bM aQ;generalize bsOf wd=sv at d0 p1 p2 p3;obtain⟨⟨cL,cK⟩,⟨cJ,cI⟩,⟨cH,cG⟩,ho,hb⟩:=Gx aB.o.re aB.o.be (Ag _);have cF:=E7 w4;have aN:=hid ho;have aO:=hid hb;clear ho hb;go_wp2_with fail;refine Be (El rfl (Fh _) (E9 _) rfl aN.o) rfl ?_;rw[HQ.o];exact⟨aO.o,cf0,rfl,CfR.zero _,Ctn.zero,OwnV.nil _ _ _ _,OwnV.nil _ _ _ _⟩
 have cV:¬ (i:Int) < (nS:Int):=by omega
 have gG:i=nS:=by omega
 have cY:S.drop i=[]:=Cq (by rw[fB.o];omega);have hV:V=.inr c:=by rw[hv,cY];rfl
 have HQ:=hid (aT.o c hV);have hr:=HP.o.cv.r;have bU:=hid (Kh A1 A2 A3 n1 n2 n3 c1 c2 c3 P C T wr hr.pp hr.ch hr.tb (fun y hy=>(hr.pt y hy).1) hr.tt);have eJ:=HX.o.whF hr.lens;rw[show D5 P C T=D5 c.P c.C c.T from eJ] at bU;obtain⟨m0,fM⟩:=Dz HP.o.cv.s.cf 0 _ rfl;obtain⟨m1,fL⟩:=Dz HP.o.cv.s.cf 1 _ rfl;obtain⟨m2,fK⟩:=Dz HP.o.cv.s.cf 2 _ rfl;clear hV hr eJ fM fL fK hv cY aT aJ;by_cases hz:(D5 c.P c.C c.T).1=0
 ·rw[hz] at bU;rw[if_pos hz] at HQ;clear hz;go_wp2_with fail;refine bU.o.mono ?_;rintro e w2⟨rfl,hb⟩;have aU:=hid (HP.o.on hb);clear hb bU m0 m1 m2;go_upto_region 31 with fail;refine wp_region_lit (wpList_loadX rfl (.tmp 5) rfl rfl (Fh _) (E9 _) aU.o.cv.s.cf (wpList_storeX (l:=[.slice A1 n1 c1,.slice A2 n2 c2,.slice A3 n3 c3]) rfl (.tmp 2) (.tmp 102) rfl rfl rfl (E9 _) aU.o.re rfl ?_ fun w5 eO aI=>?_))
  ·intro v hv;simp only[Ba,Co,or_false] at hv;rcases hv with rfl | rfl | rfl <;> rfl
  have eE:=hid (aU.o.cv.res aU.o.re aU.o.nr aI);have bJ:=hid eO;have aY:Hd (Below w.heap.size w w5):=hid (aU.o.be.trans (Fq aI (Ag _) (Ai aU.o.bn aU.o.sz)));clear eO aI aU HP;go_wp2_with fail;refine Be (El rfl (Fh _) (E9 _) rfl bJ.o) rfl ?_;rw[HQ.o];exact⟨aY.o,⟨A1,A2,A3,n1,n2,n3,c1,c2,c3,P,C,T⟩,rfl,eE.o.r,HX.o,eE.o.s.pp.own,eE.o.s.tb.own⟩
 have gL:=hid hz;rw[if_neg hz] at HQ;generalize (D5 c.P c.C c.T).1=z at bU HQ hz;have i1:(z != 0)=true:=Bz.2 hz;clear hz;go_wp2_with fail;refine bU.o.mono ?_;rintro e w2⟨rfl,hb⟩;have aU:=hid (HP.o.on hb);clear hb bU m0 m1 m2;go_upto_region 30 with fail;obtain⟨⟨cL,cK⟩,⟨cJ,cI⟩,⟨cH,cG⟩,ho,hb⟩:=Gx aU.o.re aU.o.be (Ag _);have cF:=E7 w2;have aN:=hid ho;have aO:=hid hb;clear ho hb;go_wp2_with fail;refine Be (El rfl (Fh _) (E9 _) rfl aN.o) rfl ?_;rw[HQ.o];exact⟨aO.o,cf0,rfl,CfR.zero _,Ctn.zero,OwnV.nil _ _ _ _,OwnV.nil _ _ _ _⟩
theorem cr:∀ x,lookF true [] x=if (valF lim40 x).2=true then ((valF lim40 x).1:Int) else -1:=fun x=>if_pos rfl
theorem Wr:LookS (lookF true []) numW:=look_num _ fun x hx=>by
 rw[cr] at hx |-
 split at hx
 ·rename_i h
  exact⟨h,if_pos h⟩
 ·omega
theorem io:LookB (lookF true []) numW:=num_back _ fun x hx=>by rw[cr,if_pos hx]
theorem Py(s:List UInt8):Qcl s=tableR (lookF true []) s:=by
 rw[table_same Wr io];unfold Qcl;cases tableS numW s with
 | none=>rfl
 | some x =>
  obtain⟨l,t⟩:=x;cases t with
  | nil=>rfl
  | cons c t=>rfl
theorem ii{s:List UInt8}{p:Int×List UInt8}(h:numW s=some p):Ef p.1:=by
 obtain⟨n,h1,_,h2⟩:=numW_inv (show numW s=some (p.1,p.2) from h);unfold lim40 at h2;rw[h1];exact⟨by omega,by omega⟩
theorem ft{s:List UInt8}{l:List Nd}(h:Qcl s=some l):(∀ z∈l,NdIn z)/\l.length<=128:=by
 rw[Py] at h;have h2:=tableR_S Wr h;refine⟨nodeS_in (fun s p h=>numW_le h) (fun s p h=>ii h) 16 128 s (l,[]) (by omega) h2,?_⟩;unfold tableR at h;cases hr:nodeR (lookF true []) 16 128 s with
 | none=>rw[hr] at h;cases h
 | some y =>
  rw[hr] at h;have h:(if y.2=[] then some y.1 else none)=some l:=h;split at h
  ·injection h with h;rw[<- h];exact(nodeR_rds _ 16 128 s y hr).2.1
  cases h
theorem Qt(s:List UInt8)(w:World)(hs:s.length<=1048576):Calls Tryz.prog 15 #[.string (bsOf s)] w (Ans (.bool true) w):=by
 have H1:=hid (Kj s w hs);have H2:=hid fun W=>Us s W (by omega);have H3:=hid fun l (h:Qcl s=some l)=>ft h;rw[<- Py] at H2;generalize Qcl s=R at H1 H2 H3;generalize bsOf s=sv at H1 H2 |-;clear hs;cases R with
 | none =>
  have H4:=hid fun W=>Km none none 0 0 0 0 [] [] W ⟨rfl,RdV.nil,fun z hz=>by cases hz⟩ ⟨rfl,RdV.nil,fun z hz=>by cases hz⟩ (by omega);rw[Fw] at H4;clear H3;go_in;go_wp2_with fail;refine H1.o.mono ?_;rintro e w1⟨aC,rfl⟩;have aE:=hid aC;clear aC H1;go_wp2_with fail;refine(H2.o w1).mono ?_;rintro e w2⟨aA,rfl⟩;have aD:=hid (aE.o.trans (aA.mono aE.o.size));clear aA H2;go_wp2_with fail;refine(H4.o w2).mono ?_;rintro e w3⟨rfl,zq,rfl⟩;have aB:=Below.drewN (Below.refl w2.heap.size w2) zq;have aH:=hid (aD.o.trans (aB.mono aD.o.size));clear aB H4;go_wp2;go_ret;exact Ans.mk rfl aH.o
 | some l =>
  obtain⟨aK,aJ⟩:=H3.o l rfl;have aL:=hid aK
  unfold TbA at H1 H2;obtain⟨L,hL⟩:∃ L,L=l:=⟨_,rfl⟩;obtain⟨n,hn⟩:∃ n,n=l.length:=⟨_,rfl⟩;have aJ:n<=128:=by rw[hn];exact aJ
  have HN:=hid hn;clear H3 aK hL hn;go_in;go_wp2_with fail;refine H1.o.mono ?_;rintro e w1⟨aC,A1,c1,rfl,aI⟩;have aE:=hid aC;have aG:=hid aI;clear aC aI H1;rw[<- HN.o] at aG |-;go_wp2_with fail;refine(H2.o w1).mono ?_;rintro e w2⟨aA,A2,c2,rfl,aF⟩;rw[<- HN.o] at aF |-;have aD:=hid (aE.o.trans (aA.mono aE.o.size));have H4:=hid (Km A1 A2 n n c1 c2 l l w2 ⟨HN.o.symm,(OwnV.below aG.o rfl aA).rd,aL.o⟩ ⟨HN.o.symm,aF.rd,aL.o⟩ (by omega));rw[Fw] at H4;clear aA H2 aF aG;go_wp2_with fail;refine H4.o.mono ?_;rintro e w3⟨rfl,zq,rfl⟩;have aB:=Below.drewN (Below.refl w2.heap.size w2) zq;have aH:=hid (aD.o.trans (aB.mono aD.o.size));clear aB H4;go_wp2;go_ret;exact Ans.mk rfl aH.o
theorem Q8(s:List UInt8)(w:World)(hs:s.length<=1048576):Calls Tryz.prog 12 #[.string (bsOf s)] w (Ans (.bool true) w):=by
 have H1:=hid (If s w hs);have H2:=hid fun W=>Ut s W hs;unfold To at H1 H2;generalize parseQ s=PQ at H1 H2;obtain⟨e0,n0,q⟩:=PQ;dsimp only at H1 H2;generalize bsOf s=sv at H1 H2 |-;have i1:(e0 == e0)=true:=beq_self_eq_true _;have i2:(n0 == n0)=true:=beq_self_eq_true _;clear hs;go_in;go_wp2_with fail;refine H1.o.mono ?_;rintro e w1⟨aH,x1,rfl,aM,aO,_,_⟩;have aB:=bl1 w1 (.cells #[.slice x1.A1 x1.n1 x1.c1,.slice x1.A2 x1.n2 x1.c2,.slice x1.A3 x1.n3 x1.c3] 31);have aA:=G9 w1 (.slice x1.A1 x1.n1 x1.c1) (.slice x1.A2 x1.n2 x1.c2) (.slice x1.A3 x1.n3 x1.c3) 31;have aF:=hid (aH.trans (aB.mono aH.size));have aJ:=hid (aM.on aB);have aE:=hid aO;clear H1 aH aM aO aB;unfold cfv;go_upto_region 2 with fail;generalize w1.alloc (.cells #[.slice x1.A1 x1.n1 x1.c1,.slice x1.A2 x1.n2 x1.c2,.slice x1.A3 x1.n3 x1.c3] 31)=W1 at aA aF aJ |-;generalize w1.heap.size=g1 at aA |-;have aQ:=hid aA;clear aA;go_wp2_with fail;refine(H2.o W1).mono ?_;rintro e w2⟨aG,x2,rfl,aL,aN,_,_⟩;have aB:=bl1 w2 (.cells #[.slice x2.A1 x2.n1 x2.c1,.slice x2.A2 x2.n2 x2.c2,.slice x2.A3 x2.n3 x2.c3] 31);have aA:=G9 w2 (.slice x2.A1 x2.n1 x2.c1) (.slice x2.A2 x2.n2 x2.c2) (.slice x2.A3 x2.n3 x2.c3) 31;have aC:=hid (aG.trans (aB.mono aG.size));have aI:=hid (aL.on aB);have aD:=hid aN;clear H2 aG aL aN aB;unfold cfv;go_upto_region 3 with fail;generalize w2.alloc (.cells #[.slice x2.A1 x2.n1 x2.c1,.slice x2.A2 x2.n2 x2.c2,.slice x2.A3 x2.n3 x2.c3] 31)=W2 at aA aC aI |-;generalize w2.heap.size=g2 at aA |-;obtain⟨m0,m1,m2⟩:=(aQ.o.on aC.o).three;obtain⟨m3,m4,m5⟩:=aA.three;have HS:=hid ((aJ.o.on aC.o).rsame aI.o);rw[Pz (Nt (aE.o.ep.trans aD.o.ep.symm) (aE.o.ec.trans aD.o.ec.symm) (aE.o.et.trans aD.o.et.symm))] at HS;have aK:=hid (aF.o.trans (aC.o.mono aF.o.size));clear aA aQ aJ aI aE aD aF aC;unfold cfv at HS;go_wp2_with fail;refine HS.o.mono ?_;rintro e w3⟨rfl,aP⟩;have aR:=hid (aK.o.trans (aP.mono aK.o.size));clear aP HS aK m0 m1 m2 m3 m4 m5;go_wp2;go_ret;exact Ans.mk rfl aR.o
def Nc(w:World)(e:Ending)(w':World):Prop:=∃(A:Option Addr) (n c:Nat) (f:Nat->Int),e=.returned (.slice A n c)/\RdC w' w'.heap.size A n (fun j=>.int .i64 (f j))/\n<=400/\Below w.heap.size w w'
theorem Nc.mk{w w':World}{A:Option Addr}{n c B:Nat}{L:List Int}(h:OwnV 3 1 w' B A n c (is L))(hn:n<=400)(hb:Below w.heap.size w w'):Nc w (.returned (.slice A n c)) w':=by
 refine⟨A,n,c,fun j=>L.getD j 0,rfl,fun h0=>?_,hn,hb⟩;have hl:=h.len;rw[Gj] at hl;obtain⟨ad,e,aA,hc⟩:=h.rd (by rw[Gj];omega);refine⟨ad,e,aA,fun j hj=>hc j _ ?_⟩;have aB:j < L.length:=by omega
 simp[is,aB]
theorem Ua(k:Nat)(w:World)(hk:k<=100):Calls Tryz.prog 7 #[.int .i64 (k:Int)] w (Nc w):=by
 go_in;go_wp2_with fail;obtain⟨m,hm⟩:∃ m:Nat,(400:Int)=(m:Int):=⟨400,rfl⟩;have aG:m<=400:=by omega
 rw[hm];clear hm;go_loopw [3,4] (fun q s wr=>∃(i c:Nat) (A:Option Addr) (L:List Int),i<=m/\s=.int .i64 i/\q=.slice A i c/\OwnV 3 1 wr w.heap.size A i c (is L)/\Below w.heap.size w wr) (fun _ s _=>m - (intOf s).toNat)
 case atStart=>exact⟨0,0,none,[],by omega,rfl,rfl,OwnV.nil _ _ _ _,Aj _ _⟩
 obtain⟨i,c,A,L,hi,rfl,rfl,hw,hb⟩:=hrel;by_cases aH:i < m
 ·have aA:i<=400:=by omega
  have h1:i*i<=400*400:=Nat.mul_le_mul aA aA;have h2:i*k<=400*100:=Nat.mul_le_mul aA hk;have p1:0<=(i:Int)*(i:Int):=by rw[<- Int.natCast_mul];omega
  have p2:(i:Int)*(i:Int)<=160000:=by rw[<- Int.natCast_mul];omega
  have p3:0<=(i:Int)*(k:Int):=by rw[<- Int.natCast_mul];omega
  have p4:(i:Int)*(k:Int)<=40000:=by rw[<- Int.natCast_mul];omega
  clear h1 h2;generalize hP:(i:Int)*(i:Int)=P at p1 p2;generalize hQ:(i:Int)*(k:Int)=Q at p3 p4;have aB:=hb.alloc hb.size (.cells #[.int .i64 ((P*7+(k:Int)*67+Q) % 211)] 3);have aD:=OwnV.below hw rfl (bl1 wr (.cells #[.int .i64 ((P*7+(k:Int)*67+Q) % 211)] 3));have aE:=rdV_new wr #[.int .i64 ((P*7+(k:Int)*67+Q) % 211)] 3 (is [(P*7+(k:Int)*67+Q) % 211]) rfl;go_wp2_with (at_builtin;go_loud (refine Ej elI rfl (.tmp 9) (.tmp 22) rfl rfl w.heap.size A i c _ rfl aD _ 1 1 _ _ rfl aE rfl (Vg _) (by omega) (by unfold maxLen;omega) aB.size (i+1) rfl (is (L++[(P*7+(k:Int)*67+Q) % 211])) (by rw[Mb]) ?_;intro A2 c2 w2 aC aF _));go_roundw
  case rel=>exact⟨i+1,c2,A2,_,by omega,by go_num,rfl,aC,aB.trans aF⟩
  simp[intOf];omega
 have aI:m<=i:=by omega
 go_wp2;go_ret;exact Nc.mk hw (by omega) hb
