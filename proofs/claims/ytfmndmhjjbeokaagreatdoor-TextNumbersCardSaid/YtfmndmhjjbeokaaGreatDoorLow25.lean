import Derived.Test.YtfmndmhjjbeokaaGreatDoorLow24
import Derived.Lib.UnsafeStr
import Derived.Lib.BufferWrite
import Derived.Laws.MakeOwn
set_option maxHeartbeats 4000000
set_option maxRecDepth 100000
set_option linter.unusedSimpArgs false
set_option linter.unusedVariables false
namespace Go.Proofs.YtfmndmhjjbeokaaGreatDoor
open Go.RowKit Tab
theorem Yo{s:ByteArray}(h:¬ (1<=s.size/\s.size<=12)):nameF s=false:=by
 unfold nameF;rcases(by omega:s.size < 1\/12 < s.size) with h1 | h1
 ·rw[Ac (show ¬ 1<=s.size by omega)];simp
 rw[Ac (show ¬ s.size<=12 by omega)];simp
theorem dz(i b:Nat):chB i b=(leF b || ((diF b || decide (b=95)) && decide (i≠0))):=rfl
theorem Rl(w:World)(e:TypeId)(s:ByteArray):Below w.heap.size w (Lib.bytesWorld w e s):=by
 unfold Lib.bytesWorld;exact Lib.below_freeze (((Aj w.heap.size w).drew).alloc (Ag _) _) (Ag _) 1
theorem Tg(w:World)(e:TypeId)(s:ByteArray)(j:Nat)(hj:j < s.size):(Lib.bytesWorld w e s).cell? ⟨w.heap.size,j,none⟩=some (.int .u8 (byteN s j)):=by
 rw[Lib.bytesWorld_cell w e s j hj];have h1:s.data.toList.getD j 0=s[j]:=by
  rw[Dg,Am (by simpa using hj)];rfl
 rw[h1];unfold byteN;rw[dif_pos hj]
theorem ca(s:ByteArray)(w:World)(hs:s.size<=140737488351232):Calls Tryz.prog 119 #[.string s] w (Ans (.bool (nameF s)) w):=by
 have aA:=hid fun i (hi:i < s.size) (h:chB i (byteN s i)=false)=>Qb hi h;have aB:=hid fun(h:∀ j,j < s.size->chB j (byteN s j)=true)=>Qa h;have aC:=hid fun h=>Yo (s:=s) h;have HL:=hid fun b V=>Vc b V;have HD:=hid fun b V=>Zb b V;generalize nameF s=v at aA aB aC |-;go_in;by_cases h1:s.size < 1
 ·have bC:(s.size:Int) < 1:=by omega
  have HV:=hid (aC.o (by omega));clear aA aB aC HL HD h1;go_wp2;go_ret;exact Ans.mk (by rw[HV.o];rfl) (Aj _ _)
 have bC:¬ (s.size:Int) < 1:=by omega
 by_cases h2:12 < s.size
 ·have bB:(12:Int) < (s.size:Int):=by omega
  have HV:=hid (aC.o (by omega));clear aA aB aC HL HD h1 h2;go_wp2;go_ret;exact Ans.mk (by rw[HV.o];rfl) (Aj _ _)
 have bB:¬ (12:Int) < (s.size:Int):=by omega
 have h0:0 < s.size:=by omega
 have aX:∀ W,(Instr.index 9 (.string s) (.int .i64 0)).run Tryz.prog W=.ok (.int .u8 (byteN s 0:Nat)) W:=fun W=>by
  rw[run_index_string (h:=Tryz.underlying9)];simp[h0,byteN]
 have aN:=hid (aA.o 0 h0);have bE:Hd (s.size<=12):=hid (by omega);clear aC h1 h2 h0;obtain⟨b0,aR⟩:∃ b0,b0=byteN s 0:=⟨_,rfl⟩;rw[<- aR] at aX aN;have aZ:=hid aR;have aF:=hid (dz 0 b0);clear aR;have aH:=hid (HL.o b0);cases hq:leF b0 with
 | false =>
  rw[hq] at aH aF;have HV:Hd (v=false):=hid (aN.o (by rw[aF.o];simp));clear aA aB HL HD aN aF hq;go_wp2_with fail;refine(aH.o _).mono ?_;rintro e w5⟨rfl,rfl⟩;go_wp2;go_ret;exact Ans.mk (by rw[HV.o];rfl) (Aj _ _)
 | true =>
  rw[hq] at aH aF;have bD:Hd (chB 0 (byteN s 0)=true):=hid (by rw[<- aZ.o,aF.o];simp);have aJ:=Lib.run_convert_string_bytes (P:=Tryz.prog) w 9 38 5 s Tryz.underlying9 Tryz.underlying38 Tryz.underlying5;have aQ:=Rl w 5 s;have aP:=Tg w 5 s;have aI:w.heap.size < (Lib.bytesWorld w 5 s).heap.size:=by rw[Lib.bytesWorld_size];omega
  generalize Lib.bytesWorld w 5 s=W at aJ aQ aP aI;generalize grownCap w s.size 0 5=cp at aJ;have aM:=hid aQ;have aY:=hid aP;clear aN aF hq aQ aP;obtain⟨g,hg⟩:∃ g,g=w.heap.size:=⟨_,rfl⟩;rw[<- hg] at aJ aY aI;have HG:=hid hg;have HM:=hid fun(W':World) (hb:Below W.heap.size W W') (o:Nat) (v:Value) (hv:W.cell? ⟨g,o,none⟩=some v)=>(hb.cell (p:=⟨g,o,none⟩) aI).trans hv;clear hg aI;go_wp2_with fail;refine(aH.o _).mono ?_;rintro e w5⟨rfl,rfl⟩;clear aH aX;go_wp2;clear aJ;go_loopw [4,22] (fun _ q wr=>∃ i:Nat,i<=s.size/\q=.int .i64 i/\(∀ j,j < i->chB j (byteN s j)=true)/\Below W.heap.size W wr) (fun _ q _=>s.size - (intOf q).toNat)
  case atStart=>exact⟨0,by omega,rfl,fun j h=>by omega,Aj _ _⟩
  obtain⟨i,hi,rfl,aU,hb⟩:=hrel;have aK:=hid aU;have HB:=hid hb;clear aU;by_cases aV:i < s.size
  ·have aO:(i:Int) < (s.size:Int):=by omega
   have aE:=HM.o wr hb i _ (aY.o i aV);have bF:=Jh g i;have aG:Hd (chB i (byteN s i)=true->∀ j,j < i+1->chB j (byteN s j)=true):=hid fun h=>F7 (p:=fun j=>chB j (byteN s j)=true) aK.o h;have aT:=hid (aA.o i aV);have aD:=hid (dz i (byteN s i));have aL:Hd (i=0->chB i (byteN s i)=true):=hid fun h=>by rw[h];exact bD.o
   clear hb aK aA aB;generalize byteN s i=b at aE aG aT aD aL;generalize chB i b=q at aG aT aD aL;have hL:=hid (HL.o b);have hD:=hid (HD.o b);generalize leF b=ql at hL aD;generalize diF b=qd at hD aD;clear HL HD;go_wp2_with fail;refine(hL.o _).mono ?_;rintro e w6⟨rfl,rfl⟩;clear aE;cases ql with
   | true =>
    have K:Hd (q=true):=hid (by rw[aD.o];rfl);clear aD;go_wp2;go_roundw
    case rel=>exact⟨i+1,by omega,by go_num,aG.o K.o,HB.o⟩
    simp[intOf];omega
   | false =>
    go_wp2_with fail;refine(hD.o _).mono ?_;rintro e w6⟨rfl,rfl⟩;cases qd with
    | true =>
     have K:Hd (q=true):=hid (by
      by_cases h0:i=0
      ·exact aL.o h0
      rw[aD.o];simp[h0])
     clear aD;go_wp2;go_roundw
     case rel=>exact⟨i+1,by omega,by go_num,aG.o K.o,HB.o⟩
     simp[intOf];omega
    | false =>
     by_cases h9:b=95
     ·have K:Hd (q=true):=hid (by
       by_cases h0:i=0
       ·exact aL.o h0
       rw[aD.o];simp[h0,h9])
      have bA:((b:Int) != 95)=false:=by simp;omega
      clear aD h9;go_wp2;go_roundw
      case rel=>exact⟨i+1,by omega,by go_num,aG.o K.o,HB.o⟩
      simp[intOf];omega
     have K:Hd (q=false):=hid (by rw[aD.o];simp[h9]);have bA:((b:Int) != 95)=true:=Bz.2 (by omega);have HV:=hid (aT.o K.o);clear aD h9;go_wp2;go_ret;exact Ans.mk (by rw[HV.o];rfl) (aM.o.trans (HB.o.mono aM.o.size))
  have aO:¬ (i:Int) < (s.size:Int):=by omega
  have HV:Hd (v=true):=hid (by
   rw[aB.o fun j hj=>aK.o j (by omega),Ae bE.o];have:=aZ;rw[Ae (show 1<=s.size by omega)];rfl)
  clear aA aB aK HL HD;go_wp2;go_ret;exact Ans.mk (by rw[HV.o];rfl) (aM.o.trans (HB.o.mono aM.o.size))
theorem go(e p:Int):Fm (e,p)=(wiF e 0 511 && wiF p 0 255):=by
 unfold Fm wiF;rw[show decide (e < 512)=decide (e<=511) from decide_eq_decide.2 (by omega)]
def psF(n:Nat)(L:List (Int×Int)):Bool:=wiF (n:Int) 1 3 && L.all Fm
theorem M3(n a b:Nat):wiF (n:Int) (a:Int) (b:Int)=(decide (a<=n) && decide (n<=b)):=by
 unfold wiF;rw[show decide ((a:Int)<=(n:Int))=decide (a<=n) from decide_eq_decide.2 (by omega),show decide ((n:Int)<=(b:Int))=decide (n<=b) from decide_eq_decide.2 (by omega)]
theorem Sm(x:PtV)(L:List (Int×Int)):Fg x L=(psF x.pn L && ((List.range 5).all (fun j=>hlF (hv5 x j)) && pbF x.bud x.per)):=by
 unfold Fg psF;rw[show wiF (x.pn:Int) 1 3=(decide (1<=x.pn) && decide (x.pn<=3)) from M3 x.pn 1 3,Bool.and_assoc,Bool.and_assoc,Bool.and_assoc]
theorem Yc(A:Option Addr)(n c:Nat)(L:List (Int×Int))(w:World)(h:RdB prc w w.heap.size A n L):
  Calls Tryz.prog 121 #[.slice A n c] w (Ans (.bool (psF n L)) w):=by
 have aA:Hd (∀(i:Nat) q,L[i]? = some q->Fm q=false->psF n L=false):=hid fun i q hq h=>by
  unfold psF;have:L.all Fm=false:=by
   rw[List.all_eq_false];exact⟨q,An hq,by rw[h];simp⟩
  rw[this,Bool.and_false]
 have aC:Hd (wiF (n:Int) 1 3=true->(∀(i:Nat) q,L[i]? = some q->Fm q=true)->psF n L=true):=hid fun h1 h=>by
  unfold psF;have:L.all Fm=true:=by
   rw[Ct];intro q hq;obtain⟨i,hi⟩:=Bl hq;exact h i q hi
  rw[h1,this];rfl
 have aB:Hd (wiF (n:Int) 1 3=false->psF n L=false):=hid fun h=>by unfold psF;rw[h];rfl
 have aI:Hd (wiF (n:Int) 1 3=true->n<=3):=hid fun h=>by
  rw[show wiF (n:Int) 1 3=(decide (1<=n) && decide (n<=3)) from M3 n 1 3] at h;simp at h;exact h.2
 generalize psF n L=v at aA aC aB |-;have HW:=hid (Qcj (n:Int) 1 3);have aE:=hid fun x b V=>Qcj x 0 b V;have HR:=hid h;clear h;go_in;cases hq:wiF (n:Int) 1 3 with
 | false =>
  rw[hq] at HW;have HV:=hid (aB.o hq);clear aA aC aB aI aE HR hq;go_wp2_with fail;refine(HW.o _).mono ?_;rintro e w5⟨rfl,rfl⟩;go_wp2;go_ret;exact Ans.mk (by rw[HV.o];rfl) (Aj _ _)
 | true =>
  rw[hq] at HW;have aL:=aI.o hq;have HE:=hid (aC.o hq);clear aC aB aI hq;go_wp2_with fail;refine(HW.o _).mono ?_;rintro e w5⟨rfl,rfl⟩;go_wp2;go_loopw [4,11] (fun _ s wr=>∃ i:Nat,i<=n/\s=.int .i64 i/\(∀(j:Nat) (q:Int×Int),j < i->L[j]? = some q->Fm q=true)/\Below w.heap.size w wr) (fun _ s _=>n - (intOf s).toNat)
  case atStart=>exact⟨0,by omega,rfl,fun j q hj=>by omega,Aj _ _⟩
  obtain⟨i,hi,rfl,aJ,hb⟩:=hrel;have aG:=hid aJ;clear aJ;by_cases aK:i < n
  ·obtain⟨ad,q,rfl,aN,hx,c0,ck⟩:=(HR.o.on hb).at_ F5 (by omega) aK;have d0:=c0 _ rfl;have d1:=ck 1 _ (by omega) rfl;obtain⟨e,p⟩:=q;dsimp only at d0 d1;have aH:Hd (Fm (e,p)=true->∀(j:Nat) (q:Int×Int),j < i+1->L[j]? = some q->Fm q=true):=hid fun h j q hj hq=>by
    rcases Bk j i with h5 | h5
    ·exact aG.o j q h5 hq
    obtain rfl:j=i:=by omega
    rw[hx] at hq;injection hq with hq;rw[<- hq];exact h
   have aF:=hid (aA.o i _ hx);have HB:=hid (hb.trans ((bl1 wr (.cells #[.int .i64 e,.int .i64 p] 62)).mono hb.size));have aD:=hid (go e p);have H1:=hid (aE.o e 511);have H2:=hid (aE.o p 255);generalize wiF e 0 511=q1 at aD H1;generalize wiF p 0 255=q2 at aD H2;clear c0 ck hx aG aA HE aE hb;cases q1 with
   | false =>
    have HV:=hid (aF.o (by rw[aD.o];rfl));clear aF aD aH;go_wp2_with fail;refine(H1.o _).mono ?_;rintro e w5⟨rfl,rfl⟩;go_wp2;go_ret;exact Ans.mk (by rw[HV.o];rfl) HB.o
   | true =>
    go_wp2_with fail;refine(H1.o _).mono ?_;rintro e w5⟨rfl,rfl⟩;go_wp2_with fail;refine(H2.o _).mono ?_;rintro e w5⟨rfl,rfl⟩;cases q2 with
    | false =>
     have HV:=hid (aF.o (by rw[aD.o];rfl));clear aF aD aH;go_wp2;go_ret;exact Ans.mk (by rw[HV.o];rfl) HB.o
    | true =>
     have HN:=hid (aH.o (by rw[aD.o];rfl));clear aF aD aH;go_wp2;go_roundw
     case rel=>exact⟨i+1,by omega,by go_num,HN.o,HB.o⟩
     simp[intOf];omega
  have aM:n<=i:=by omega
  have HV:=hid (HE.o fun j q hq=>aG.o j q (by have:=(Af.1 hq).1;have:=HR.o.len;omega) hq);clear aG HE aA aE;go_wp2;go_ret;exact Ans.mk (by rw[HV.o];rfl) hb
theorem dw(f t c m l n:Int)(q:Bool):Hi ⟨f,t,q,c,m,l⟩ n=(wiF f 0 (n - 1) && (wiF t 0 (n - 1) && (!decide (f=t) && (wiF l 0 4096 && if q=true then wiF c 1 8 else decide (c=0))))):=by
 unfold Hi wiF;dsimp only;rw[show decide (f < n)=decide (f<=n - 1) from decide_eq_decide.2 (by omega),show decide (t < n)=decide (t<=n - 1) from decide_eq_decide.2 (by omega)];generalize decide (0<=f)=b1;generalize decide (f<=n - 1)=b2;generalize decide (0<=t)=b3;generalize decide (t<=n - 1)=b4;rw[show decide (f≠t)=!decide (f=t) from by simp];generalize decide (f=t)=b5;generalize decide (0<=l)=b6;generalize decide (l<=4096)=b7;generalize decide (1<=c)=b8;generalize decide (c<=8)=b9;generalize decide (c=0)=aA;cases q <;> cases b1 <;> cases b2 <;> cases b3 <;> cases b4 <;> cases b5 <;> cases b6 <;> cases b7 <;> simp
theorem jg(x:ChV)(n:Nat)(hn:n<=1048576)(w:World):Calls Tryz.prog 95 #[cv x,.int .i64 (n:Int)] w (Ans (.bool (Hi x n)) w):=by
 obtain⟨f,t,q,c,m,l⟩:=x;have HV:=hid (dw f t c m l n q);generalize Hi ⟨f,t,q,c,m,l⟩ (n:Int)=v at HV |-;have H1:=hid (Qcj f 0 ((n:Int) - 1));have H2:=hid (Qcj t 0 ((n:Int) - 1));have H3:=hid (Ng l 0 4096);have H4:=hid (Qcj c 1 8);generalize wiF f 0 ((n:Int) - 1)=q1 at H1 HV;generalize wiF t 0 ((n:Int) - 1)=q2 at H2 HV;generalize wiF l 0 4096=q3 at H3 HV;generalize wiF c 1 8=q4 at H4 HV;have hw:IntKind.i64.wrap ((n:Int) - 1)=(n:Int) - 1:=by
  exact Dt _ (by omega)
 have HB:=hid (bl1 w (.cells #[.int .i64 f,.int .i64 t,.bool q,.int .i64 c,.int .u32 m,.int .i64 l] 66));have aA:∀ o v,(#[Value.int .i64 f,.int .i64 t,.bool q,.int .i64 c,.int .u32 m,.int .i64 l]:Array Value)[o]? = some v->(w.alloc (.cells #[.int .i64 f,.int .i64 t,.bool q,.int .i64 c,.int .u32 m,.int .i64 l] 66)).cell? ⟨w.heap.size,o,none⟩=some v:=fun o v hv=>(Ab _ _ _ _ _).trans hv;have m0:=aA 0 _ rfl;have m1:=aA 1 _ rfl;have m2:=aA 2 _ rfl;have m3:=aA 3 _ rfl;have m5:=aA 5 _ rfl;clear aA;go_in;go_upto_region 1 with fail;generalize w.alloc (.cells #[.int .i64 f,.int .i64 t,.bool q,.int .i64 c,.int .u32 m,.int .i64 l] 66)=W at HB m0 m1 m2 m3 m5 |-;generalize w.heap.size=g at m0 m1 m2 m3 m5 |-;cases q1 with
 | false =>
  have E:Hd (v=false):=hid (by rw[HV.o];rfl);clear HV;go_wp2_with fail;refine(H1.o _).mono ?_;rintro e w5⟨rfl,rfl⟩;go_wp2;go_ret;exact Ans.mk (by rw[E.o];rfl) HB.o
 | true =>
 go_wp2_with fail;refine(H1.o _).mono ?_;rintro e w5⟨rfl,rfl⟩;go_wp2_with fail;refine(H2.o _).mono ?_;rintro e w5⟨rfl,rfl⟩;cases q2 with
 | false =>
  have E:Hd (v=false):=hid (by rw[HV.o];rfl);clear HV;go_wp2;go_ret;exact Ans.mk (by rw[E.o];rfl) HB.o
 | true =>
 by_cases aC:f=t
 ·have E:Hd (v=false):=hid (by rw[HV.o,Ae aC];rfl);have i1:(f == t)=true:=Ck.2 aC;clear HV aC;go_wp2;go_ret;exact Ans.mk (by rw[E.o];rfl) HB.o
 have i1:(f == t)=false:=Ak.2 aC;have aB:Hd (v=(q3 && if q=true then q4 else decide (c=0))):=hid (by rw[HV.o,Ac aC];rfl);clear HV aC;go_wp2_with fail;refine(H3.o _).mono ?_;rintro e w5⟨rfl,rfl⟩;cases q3 with
 | false =>
  have E:Hd (v=false):=hid (by rw[aB.o];rfl);clear aB;go_wp2;go_ret;exact Ans.mk (by rw[E.o];rfl) HB.o
 | true =>
 cases q with
 | true =>
  have E:Hd (v=q4):=hid (by rw[aB.o];rfl);clear aB;go_wp2_with fail;refine(H4.o _).mono ?_;rintro e w5⟨rfl,rfl⟩;go_wp2;go_ret;exact Ans.mk (by rw[E.o];rfl) HB.o
 | false =>
  by_cases hc:c=0
  ·have E:Hd (v=true):=hid (by rw[aB.o,Ae hc];rfl);have i2:(c == 0)=true:=Ck.2 hc;clear aB hc;go_wp2;go_ret;exact Ans.mk (by rw[E.o];rfl) HB.o
  have E:Hd (v=false):=hid (by rw[aB.o,Ac hc];rfl);have i2:(c == 0)=false:=Ak.2 hc;clear aB hc;go_wp2;go_ret;exact Ans.mk (by rw[E.o];rfl) HB.o
theorem RdB.tak{α:Type}{f:α->List Value}{w:World}{B n:Nat}{A:Option Addr}{l:List α}(h:RdB f w B A n l){i:Nat}(hi:i<=n):RdB f w B A i (l.take i):=by
 refine⟨by rw[Cl,h.len];omega,fun h0=>?_⟩;have e:l.flatMap f=(l.take i).flatMap f++(l.drop i).flatMap f:=by rw[<- Bu,Dl]
 obtain⟨ad,h1,h2,h3⟩:=h.rd (by rw[e,Aa];omega);refine⟨ad,h1,h2,fun j v hj=>h3 j v ?_⟩;rw[e,Dq (Af.1 hj).1];exact hj
theorem Ym(A:Option Addr)(n c:Nat)(P:List Pq)(nm:ByteArray)(w:World)(h:RdB pcq w w.heap.size A n P)(hn:n<=1048576):
  Calls Tryz.prog 120 #[.slice A n c,.string nm] w (Ans (.bool (P.any fun y=>decide (y.1.name=nm))) w):=by
 have aA:Hd (∀(i:Nat) y,P[i]? = some y->decide (y.1.name=nm)=true->(P.any fun y=>decide (y.1.name=nm))=true):=hid fun i y hy h=>Ds.2 ⟨y,An hy,h⟩;have aE:Hd ((∀(i:Nat) y,P[i]? = some y->decide (y.1.name=nm)=false)->(P.any fun y=>decide (y.1.name=nm))=false):=hid fun h=>by
  rw[List.any_eq_false];intro y hy;obtain⟨k,hk⟩:=Bl hy;rw[h k y hk];decide
 generalize (P.any fun y=>decide (y.1.name=nm))=v at aA aE |-;have HR:=hid h;clear h;go_in;go_wp2;go_loopw [6,9] (fun _ s wr=>∃ i:Nat,i<=n/\s=.int .i64 i/\(∀(j:Nat) (y:Pq),j < i->P[j]? = some y->decide (y.1.name=nm)=false)/\Below w.heap.size w wr) (fun _ s _=>n - (intOf s).toNat)
 case atStart=>exact⟨0,by omega,rfl,fun j q hj=>by omega,Aj _ _⟩
 obtain⟨i,hi,rfl,aG,hb⟩:=hrel;have aC:=hid aG;clear aG;by_cases aI:i < n
 ·obtain⟨ad,y,rfl,aL,hx,c0,ck⟩:=(HR.o.on hb).at_ Fv (by omega) aI;have d0:=c0 _ rfl;have d1:=ck 1 _ (by omega) rfl;have d2:=ck 2 _ (by omega) rfl;have d3:=ck 3 _ (by omega) rfl;have d4:=ck 4 _ (by omega) rfl;have d5:=ck 5 _ (by omega) rfl;have d6:=ck 6 _ (by omega) rfl;have d7:=ck 7 _ (by omega) rfl;have d8:=ck 8 _ (by omega) rfl;have d9:=ck 9 _ (by omega) rfl;have aJ:=ck 10 _ (by omega) rfl;have aD:Hd (decide (y.1.name=nm)=false->∀(j:Nat) (y:Pq),j < i+1->P[j]? = some y->decide (y.1.name=nm)=false):=hid fun h j q hj hq=>by
   rcases Bk j i with h5 | h5
   ·exact aC.o j q h5 hq
   obtain rfl:j=i:=by omega
   rw[hx] at hq;injection hq with hq;rw[<- hq];exact h
  have aF:=hid (aA.o i y hx);obtain⟨⟨aB,bu,pe,sc,st,pa,pn,pc,h0,h1,h2,h3,h4⟩,L⟩:=y;dsimp only at d0 d1 d2 d3 d4 d5 d6 d7 d8 d9 aJ aD aF;have HB:=hid (hb.trans ((bl1 wr (.cells #[.string aB,.int .i64 bu,.int .i64 pe,.bool sc,.bool st,.slice pa pn pc,.int .i64 h0,.int .i64 h1,.int .i64 h2,.int .i64 h3,.int .i64 h4] 60)).mono hb.size));clear c0 ck hx aC aA aE hb;cases hq:decide (aB=nm) with
  | true =>
   have aH:(aB.toList == nm.toList)=true:=Et hq;have HV:=hid (aF.o hq);clear aD aF hq;go_wp2;go_ret;exact Ans.mk (by rw[HV.o];rfl) HB.o
  | false =>
   have aH:(aB.toList == nm.toList)=false:=Et hq;have HN:=hid (aD.o hq);clear aD aF hq;go_wp2;go_roundw
   case rel=>exact⟨i+1,by omega,by go_num,HN.o,HB.o⟩
   simp[intOf];omega
 have aK:n<=i:=by omega
 have HV:=hid (aE.o fun j q hq=>aC.o j q (by have:=(Af.1 hq).1;have:=HR.o.len;omega) hq);clear aC aA aE;go_wp2;go_ret;exact Ans.mk (by rw[HV.o];rfl) hb
theorem me(A1 A2 A3:Option Addr)(n1 n2 n3 c1 c2 c3:Nat)(w:World):
  Calls Tryz.prog 93 #[.agg #[.slice A1 n1 c1,.slice A2 n2 c2,.slice A3 n3 c3]] w (Ans (.bool (wiF (n1:Int) 1 6 && (decide (n2<=8) && wiF (n3:Int) 1 3))) w):=by
 have HB:=hid (bl1 w (.cells #[.slice A1 n1 c1,.slice A2 n2 c2,.slice A3 n3 c3] 31));have m0:(w.alloc (.cells #[.slice A1 n1 c1,.slice A2 n2 c2,.slice A3 n3 c3] 31)).cell? ⟨w.heap.size,0,none⟩=some (.slice A1 n1 c1):=Ab _ _ _ _ _;have m1:(w.alloc (.cells #[.slice A1 n1 c1,.slice A2 n2 c2,.slice A3 n3 c3] 31)).cell? ⟨w.heap.size,1,none⟩=some (.slice A2 n2 c2):=Ab _ _ _ _ _;have m2:(w.alloc (.cells #[.slice A1 n1 c1,.slice A2 n2 c2,.slice A3 n3 c3] 31)).cell? ⟨w.heap.size,2,none⟩=some (.slice A3 n3 c3):=Ab _ _ _ _ _;have H1:=hid (Qcj (n1:Int) 1 6);have H2:=hid (Qcj (n3:Int) 1 3);generalize wiF (n1:Int) 1 6=q1 at H1 |-;generalize wiF (n3:Int) 1 3=q2 at H2 |-;have aA:=hid (fun h=>Ae h:n2<=8->decide (n2<=8)=true);have aB:=hid (fun h=>Ac h:¬ n2<=8->decide (n2<=8)=false);generalize decide (n2<=8)=d at aA aB |-;go_in;go_upto_region 1 with fail;generalize w.alloc (.cells #[.slice A1 n1 c1,.slice A2 n2 c2,.slice A3 n3 c3] 31)=W at HB m0 m1 m2 |-;generalize w.heap.size=g at m0 m1 m2 |-;cases q1 with
 | false =>
  go_wp2_with fail;refine(H1.o _).mono ?_;rintro e w5⟨rfl,rfl⟩;go_wp2;go_ret;exact Ans.mk rfl HB.o
 | true =>
 by_cases h2:n2<=8
 ·have aC:(n2:Int)<=8:=by omega
  obtain rfl:=aA.o h2;clear h2 aA aB;go_wp2_with fail;refine(H1.o _).mono ?_;rintro e w5⟨rfl,rfl⟩;go_wp2_with fail;refine(H2.o _).mono ?_;rintro e w5⟨rfl,rfl⟩;go_wp2;go_ret;exact Ans.mk rfl HB.o
 have aC:¬ (n2:Int)<=8:=by omega
 obtain rfl:=aB.o h2;clear h2 aA aB;go_wp2_with fail;refine(H1.o _).mono ?_;rintro e w5⟨rfl,rfl⟩;go_wp2;go_ret;exact Ans.mk rfl HB.o
def CpR(E:TypeId)(s:Nat)(n:Nat)(l:List Value)(w:World)(e:Ending)(w':World):Prop:=∃(A':Option Addr) (c':Nat),e=.returned (.slice A' (n:Nat) c')/\OwnV E s w' w.heap.size A' n c' l/\Below w.heap.size w w'
theorem Qae:(Tryz.prog.info? 5).map (fun i=>(i.zero,i.size,i.bytes))=some (some (.int .u8 0),1,1):=by kernel_rfl
theorem Ug(s:ByteArray)(w:World)(hs:s.size<=140737488351232):Calls Tryz.prog 151 #[.string s] w (Ans (.string s) w):=by
 by_cases h0:s.size=0
 ·obtain rfl:s=⟨#[]⟩:=ByteArray.ext (Array.eq_empty_of_size_eq_zero h0);go_in;go_wp2;go_ret;exact Ans.mk rfl (Aj _ _)
 obtain⟨i0,hi,aH,aB,aG⟩:=info_parts Qae;have aA:(Tryz.prog.info? 5).map (·.size)=some 1:=by rw[hi];simp[aB]
 have aK:Tryz.prog.cellsOf 5=1:=by kernel_rfl
 obtain⟨M,hM⟩:∃ M,M=madeCells (Value.int .u8 0).cells (((s.size:Nat):Int).toNat*i0.size):=⟨_,rfl⟩;have aO:M.size=s.size:=by rw[hM,size_madeCells,aB];simp
 have aM:∀ W:World,(Instr.makeSlice 38 (.int .i64 (s.size:Int)) (.int .i64 (s.size:Int))).run Tryz.prog W=.ok (.slice (some ⟨W.heap.size,0,none⟩) s.size s.size) (W.alloc (.cells M 5)):=fun W=>by
  have h:=run_make (P:=Tryz.prog) W 38 5 i0 (.int .u8 0) Tryz.underlying38 hi aH .i64 .i64 (s.size:Int) (s.size:Int) (by omega) (by omega) (by rw[aG];omega) (by omega);rw[<- hM] at h;simpa using h
 clear hM;have aJ:=Lib.run_copy_row_string (P:=Tryz.prog) (w.alloc (.cells M 5)) 38 9 3 5 w.heap.size 0 s.size s.size s M 5 Tryz.underlying38 aA (heap_alloc_new w _) (Ag _) (by omega);obtain⟨Y,hY⟩:∃ Y,Y=(M.toList.take 0++Lib.byteCells s.data.toList++M.toList.drop (0+s.size)).toArray:=⟨_,rfl⟩;rw[<- hY] at aJ;have aF:Y.toList=Lib.byteCells s.data.toList:=by
  rw[hY,List.toList_toArray,List.take_zero,Cw,List.drop_of_length_le (by rw[C8];omega),Az]
 have aN:Y.size=s.size:=by rw[<- C8,aF,Lib.byteCells_length,<- Lib.size_eq]
 have aC:((w.alloc (.cells M 5)).setRow w.heap.size Y).heap[w.heap.size]? = some (.cells Y 5 (0,0)):=setRow_heap _ _ M _ 5 (0,0) (heap_alloc_new w _);have aI:s.data.toList≠[]:=fun e=>h0 (by rw[Lib.size_eq,e];rfl);have aL:=Lib.run_unsafeString_row (P:=Tryz.prog) ((w.alloc (.cells M 5)).setRow w.heap.size Y) 171 3 9 5 Tryz.underlying171 aK w.heap.size Y.size (by unfold World.shape?;rw[aC]) s.data.toList aI (by rw[<- Lib.size_eq];omega) (by rw[<- Lib.size_eq];omega)
  (fun j x hx=>Lib.cells_of_row aC Y.size j _ (by rw[Bd (by rw[C8];exact Ag _),aF];simp[Lib.byteCells,hx]))
 rw[<- Lib.size_eq] at aL;have aE:Below w.heap.size w (w.alloc (.cells M 5)):=bl1 w _;have aD:Below w.heap.size (w.alloc (.cells M 5)) ((w.alloc (.cells M 5)).setRow w.heap.size Y):=⟨rfl,rfl,rfl,by simp,fun k hk=>setRow_other _ _ _ _ (by omega)⟩;have HB:=hid (Lib.below_freeze (aE.trans aD) (p:=⟨w.heap.size,0,none⟩) (Ag _) s.size);clear hY aE aD;go_in;go_wp2;go_ret;exact⟨rfl,HB.o⟩
theorem R3(s:ByteArray)(w:World)(hs:s.size<=140737488351232):Calls Tryz.prog 137 #[.string s] w (Ans (.string s) w):=by
 have H:=hid (Ug s w hs);go_in;go_wp2_with fail;refine H.o.mono ?_;rintro e w5⟨rfl,aA⟩;go_wp2;go_ret;exact Ans.mk rfl aA
end Go.Proofs.YtfmndmhjjbeokaaGreatDoor
namespace Go.Proofs.YtfmndmhjjbeokaaGreatDoor
open Go.RowKit Tab Txt
theorem Jy{B g:Nat}{st:Option (List UInt8)}{w w1 w2:World}(h:Rpo B g st w w1)(hb:Below w1.heap.size w1 w2):Rpo B g st w w2 :=
 ⟨OwnV.below h.rd rfl hb,Ha h.gb (Ho hb)⟩
def Qbf(B g:Nat)(R:Option (List UInt8×List UInt8))(w:World)(e:Ending)(w':World):Prop:=∃(v:List UInt8) (st':Option (List UInt8)),e=.returned (.string (bsOf v))/\Got R v st'/\v.length<=1048576/\Rpo B g st' w w'
theorem Qag{f:List UInt8->List UInt8}(hf:f []=[])(st:Option (List UInt8)):(st.map f).getD []=f (st.getD []):=by cases st <;> simp[hf]
theorem Qcx{B g:Nat}{st:Option (List UInt8)}{w:World}(h:Qce B g st w)(hl:(st.getD []).length<=1048576):
  Calls Tryz.prog 109 #[.pointer (some ⟨g,0,none⟩)] w (Qbf B g (st.bind nameS) w):=by
 have HU:=hid (Js h (by omega) 32 32 rfl);have aE:=J9 (isB 32) (st.getD []);have aD:Hd ((aheadT (isB 32) (st.getD [])).length<=1048576):=hid (by omega);have aA:=hid fun W=>ca (bsOf (aheadT (isB 32) (st.getD []))) W (by rw[bs_size];omega);have aB:=hid fun W=>R3 (bsOf (aheadT (isB 32) (st.getD []))) W (by rw[bs_size];omega);have HG:Hd (∀ b,nameF (bsOf (aheadT (isB 32) (st.getD [])))=b->Got (st.bind nameS) (aheadT (isB 32) (st.getD [])) (if b=true then st.map (behindT (isB 32)) else none)):=hid fun b hb=>by
  cases st with
  | none =>
   refine⟨?_,fun x hx=>by cases hx⟩;split <;> rfl
  | some s =>
   rw[Bq] at hb |-;show Got (nameS s) _ _;unfold nameS;rw[hb];cases b with
   | true=>rw[if_pos rfl,if_pos rfl];exact⟨rfl,fun x hx=>by injection hx with hx;rw[<- hx]⟩
   | false=>rw[if_neg (by decide),if_neg (by decide)];exact⟨rfl,fun x hx=>by cases hx⟩
 generalize st.bind nameS=R at HG |-;generalize aheadT (isB 32) (st.getD [])=nm at HU aA aB HG aD;generalize st.map (behindT (isB 32))=ST at HU HG;generalize hq:nameF (bsOf nm)=q at aA;have aC:=hid (HG.o q hq);clear h hl aE HG hq;cases q with
 | true =>
  rw[if_pos rfl] at aC;generalize hs:bsOf nm=sv at HU aA aB;have HS:=hid hs;clear hs;go_in;go_wp2_with fail;refine HU.o.mono ?_;rintro e w1⟨rfl,h1⟩;have H1:=hid h1;clear h1 HU;go_wp2_with fail;refine(aA.o w1).mono ?_;rintro e w2⟨rfl,b2⟩;have H2:=hid (Jy H1.o b2);clear b2 H1;go_wp2_with fail;refine(aB.o w2).mono ?_;rintro e w3⟨rfl,b3⟩;have H3:=hid (Jy H2.o b3);clear b3 H2;go_wp2;go_ret;exact⟨nm,_,by rw[HS.o];rfl,aC.o,aD.o,H3.o⟩
 | false =>
  rw[if_neg (by decide)] at aC;generalize hs:bsOf nm=sv at HU aA aB;have HS:=hid hs;clear hs;go_in;go_wp2_with fail;refine HU.o.mono ?_;rintro e w1⟨rfl,h1⟩;have H1:=hid h1;clear h1 HU;go_wp2_with fail;refine(aA.o w1).mono ?_;rintro e w2⟨rfl,b2⟩;have H2:=hid (Jy H1.o b2);clear b2 H1;have HF:=hid (En H2.o.rd);go_wp2_with fail;refine HF.o.mono ?_;rintro e w4⟨rfl,h4⟩;have H4:=hid (H2.o.trans h4);clear h4 HF H2;go_wp2_with fail;refine(aB.o w4).mono ?_;rintro e w3⟨rfl,b3⟩;have H3:=hid (Jy H4.o b3);clear b3 H4;go_wp2;go_ret;exact⟨nm,_,by rw[HS.o];rfl,aC.o,aD.o,H3.o⟩
def jz(B g:Nat)(R:Option (Int×List UInt8))(w:World)(e:Ending)(w':World):Prop:=∃(v:Int) (st':Option (List UInt8)),e=.returned (.int .i64 v)/\Ef v/\Got R v st'/\Rpo B g st' w w'
theorem Oc{P:List Pq}{i:Nat}{y:Pq}(h:P[i]? = some y):(namesP P)[i]? = some (toL y.1.name):=by unfold namesP;rw[Bm,h];rfl
theorem Jo:∀(L:List (List UInt8)) (s:List UInt8),-1<=findF L s/\findF L s < L.length\/L=[]/\findF L s=-1
 | [],s=>.inr ⟨rfl,rfl⟩
 | x::l,s=>by
  refine .inl ?_
  unfold findF
  rw[Ad]
  have:=Jo l s
  rcases this with h | ⟨h1,h2⟩
  ·split
   ·omega
   ·split <;> omega
  ·rw[h2,h1]
   split
   ·simp
   ·simp
theorem Qck{B g:Nat}{st:Option (List UInt8)}{w:World}(h:Qce B g st w)(hl:(st.getD []).length<=1048576)(b:UInt8)(z:Int)(hz:z=(b.toNat:Int))(A:Option Addr)(n c:Nat)(P:List Pq)(hP:∀ W,w.grownBy W (some g)->RdB pcq W W.heap.size A n P)(hn:n<=1048576):
  Calls Tryz.prog 77 #[.pointer (some ⟨g,0,none⟩),.slice A n c,.int .u8 z] w (jz B g (st.bind (knownS (namesP P) b)) w):=by
 have HU:=hid (Js h (by omega) b z hz);have aP:Hd (P.length=n):=hid (hP w (Sn _ _)).len;have aJ:=hid (Jo (namesP P) (aheadT (isB b) (st.getD [])));have aA:Hd (∀(i:Nat) (y:Pq),P[i]? = some y->bsOf (aheadT (isB b) (st.getD []))=y.1.name->(∀(j:Nat) (y:Pq),j < i->P[j]? = some y->decide (y.1.name=bsOf (aheadT (isB b) (st.getD [])))=false)->Got (st.bind (knownS (namesP P) b)) (i:Int) (st.map (behindT (isB b)))):=hid fun i y hy he hj=>by
  have hf:findF (namesP P) (aheadT (isB b) (st.getD []))=(i:Int):=findF_at (by rw[Oc hy,<- he,toL_bsOf]) (fun j aL e=>by
   obtain⟨y',aC⟩:∃ y',P[j]? = some y':=⟨_,Am (by have:=(Af.1 hy).1;omega)⟩;rw[Oc aC] at e;injection e with e;have h2:=hj j y' aL aC;rw[decide_eq_false_iff_not] at h2;exact h2 (by rw[<- e,bsOf_toL]))
  cases st with
  | none=>exact⟨rfl,fun x hx=>by cases hx⟩
  | some s =>
   rw[Bq] at hf;show Got (knownS (namesP P) b s) _ _;unfold knownS;rw[hf,if_neg (by omega)];exact⟨rfl,fun x hx=>by injection hx with hx;rw[<- hx]⟩
 have aB:Hd ((∀(j:Nat) (y:Pq),P[j]? = some y->decide (y.1.name=bsOf (aheadT (isB b) (st.getD [])))=false)->Got (st.bind (knownS (namesP P) b)) 0 none):=hid fun hj=>by
  have hf:findF (namesP P) (aheadT (isB b) (st.getD []))=-1:=Kr fun j e=>by
   have aH:j < P.length:=by have:=(Af.1 e).1;unfold namesP at this;rwa [Bi] at this
   obtain⟨y',aC⟩:∃ y',P[j]? = some y':=⟨_,Am aH⟩;rw[Oc aC] at e;injection e with e;have h2:=hj j y' aC;rw[decide_eq_false_iff_not] at h2;exact h2 (by rw[<- e,bsOf_toL])
  cases st with
  | none=>exact⟨rfl,fun x hx=>by cases hx⟩
  | some s =>
   rw[Bq] at hf;show Got (knownS (namesP P) b s) _ _;unfold knownS;rw[hf,if_pos (by decide)];exact⟨rfl,fun x hx=>by cases hx⟩
 have HP:=hid hP;generalize st.bind (knownS (namesP P) b)=R at aA aB |-;generalize aheadT (isB b) (st.getD [])=nm at HU aA aB aJ;generalize st.map (behindT (isB b))=ST at HU aA;generalize bsOf nm=sv at HU aA aB;clear h hl hz hP aJ;go_in;go_wp2_with fail;refine HU.o.mono ?_;rintro e w1⟨rfl,h1⟩;have H1:=hid h1;have HR:=hid (HP.o w1 h1.gb);clear h1 HU HP;go_wp2;go_loopw [8,9,15] (fun _ _ s wr=>∃ i:Nat,i<=n/\s=.int .i64 i/\(∀(j:Nat) (y:Pq),j < i->P[j]? = some y->decide (y.1.name=sv)=false)/\Below w1.heap.size w1 wr) (fun _ _ s _=>n - (intOf s).toNat)
 case atStart=>exact⟨0,by omega,rfl,fun j q hj=>by omega,Aj _ _⟩
 obtain⟨i,hi,rfl,aI,hb⟩:=hrel;have aD:=hid aI;clear aI;by_cases aH:i < n
 ·obtain⟨ad,y,rfl,aO,hx,c0,ck⟩:=(HR.o.on hb).at_ Fv (by omega) aH;have d0:=c0 _ rfl;have d1:=ck 1 _ (by omega) rfl;have d2:=ck 2 _ (by omega) rfl;have d3:=ck 3 _ (by omega) rfl;have d4:=ck 4 _ (by omega) rfl;have d5:=ck 5 _ (by omega) rfl;have d6:=ck 6 _ (by omega) rfl;have d7:=ck 7 _ (by omega) rfl;have d8:=ck 8 _ (by omega) rfl;have d9:=ck 9 _ (by omega) rfl;have aM:=ck 10 _ (by omega) rfl;have aF:Hd (decide (y.1.name=sv)=false->∀(j:Nat) (y:Pq),j < i+1->P[j]? = some y->decide (y.1.name=sv)=false):=hid fun h j q hj hq=>by
   rcases Bk j i with h5 | h5
   ·exact aD.o j q h5 hq
   obtain rfl:j=i:=by omega
   rw[hx] at hq;injection hq with hq;rw[<- hq];exact h
  have aG:Hd (decide (y.1.name=sv)=true->Got R (i:Int) ST):=hid fun h=>aA.o i y hx (Dk h).symm aD.o;obtain⟨⟨aE,bu,pe,sc,sp,pa,pn,pc,h0,h1,h2,h3,h4⟩,L⟩:=y;dsimp only at d0 d1 d2 d3 d4 d5 d6 d7 d8 d9 aM aF aG;have HB:=hid (hb.trans ((bl1 wr (.cells #[.string aE,.int .i64 bu,.int .i64 pe,.bool sc,.bool sp,.slice pa pn pc,.int .i64 h0,.int .i64 h1,.int .i64 h2,.int .i64 h3,.int .i64 h4] 60)).mono hb.size));clear c0 ck hx aD aA aB hb;cases hq:decide (aE=sv) with
  | true =>
   have aK:(aE.toList == sv.toList)=true:=Et hq;have HV:=hid (aG.o hq);clear aF aG hq;go_wp2;go_ret;exact⟨i,ST,rfl,⟨by omega,by omega⟩,HV.o,Jy H1.o HB.o⟩
  | false =>
   have aK:(aE.toList == sv.toList)=false:=Et hq;have HN:=hid (aF.o hq);clear aF aG hq;go_wp2;go_roundw
   case rel=>exact⟨i+1,by omega,by go_num,HN.o,HB.o⟩
   simp[intOf];omega
 have aN:n<=i:=by omega
 have HV:=hid (aB.o fun j q hq=>aD.o j q (by have:=(Af.1 hq).1;have:=HR.o.len;omega) hq);have H2:=hid (Jy H1.o hb);clear aD aA aB;have HF:=hid (En H2.o.rd);go_wp2_with fail;refine HF.o.mono ?_;rintro e w4⟨rfl,h4⟩;have H4:=hid (H2.o.trans h4);clear h4 HF;go_wp2;go_ret;exact⟨0,none,rfl,⟨by decide,by decide⟩,HV.o,H4.o⟩
