import Derived.Deep.Cut
import Derived.Test.YtfmndmhjjbeokaaGreatDoorLow18
import Derived.Laws.StructEq
set_option maxHeartbeats 4000000
set_option maxRecDepth 100000
set_option linter.unusedSimpArgs false
set_option linter.unusedVariables false
namespace Go.Proofs.YtfmndmhjjbeokaaGreatDoor
open Go.RowKit Tab
def chB(i b:Nat):Bool:=(decide (97<=b) && decide (b<=122)) || ((decide (48<=b) && decide (b<=57) || decide (b=95)) && decide (i≠0))
def byteN(s:ByteArray)(j:Nat):Nat:=if h:j < s.size then s[j].toNat else 0
def nameF(s:ByteArray):Bool:=(List.range s.size).all (fun j=>chB j (byteN s j)) && (decide (1<=s.size) && decide (s.size<=12))
theorem Qb{s:ByteArray}{i:Nat}(hi:i < s.size)(h:chB i (byteN s i)=false):nameF s=false:=by
 unfold nameF;have:(List.range s.size).all (fun j=>chB j (byteN s j))=false:=by
  rw[List.all_eq_false];exact⟨i,Cx.2 hi,by rw[h];simp⟩
 rw[this];rfl
theorem Qa{s:ByteArray}(h:∀ j,j < s.size->chB j (byteN s j)=true):nameF s=(decide (1<=s.size) && decide (s.size<=12)):=by
 unfold nameF;have:(List.range s.size).all (fun j=>chB j (byteN s j))=true:=by
  rw[Ct];exact fun j hj=>h j (Cx.1 hj)
 rw[this];rfl
theorem Pm(s:ByteArray)(w:World)(hs:s.size<=140737488351232):Calls Tryz.prog 89 #[.string s] w (fun e w'=>e=.returned (.bool (nameF s))/\w=w'):=by
 have aB:=hid fun i (hi:i < s.size) (h:chB i (byteN s i)=false)=>Qb hi h;have aA:=hid fun(h:∀ j,j < s.size->chB j (byteN s j)=true)=>Qa h;generalize nameF s=v at aB aA;go_in;go_wp2;go_loopw [3,4] (fun q _ wr=>∃ i:Nat,i<=s.size/\q=.int .i64 i/\(∀ j,j < i->chB j (byteN s j)=true)/\w=wr) (fun q _ _=>s.size - (intOf q).toNat)
 case atStart=>exact⟨0,by omega,rfl,fun j h=>by omega,rfl⟩
 obtain⟨i,hi,rfl,aH,rfl⟩:=hrel;have aE:=hid aH;clear aH;by_cases aD:i < s.size
 ·have aC:(i:Int) < (s.size:Int):=by omega
  have hb:byteN s i=s[i].toNat:=dif_pos aD;have HB:=hid hb;have aF:Hd (chB i (byteN s i)=true->∀ j,j < i+1->chB j (byteN s j)=true):=hid fun h j hj=>by
   rcases Bk j i with h1 | h1
   ·exact aE.o j h1
   obtain rfl:j=i:=by omega
   exact h
  rw[hb] at aF;have aG:=hid (aB.o i aD);rw[hb] at aG;clear hb HB aB aA aE;have HC:Hd (∀ b:Nat,b=s[i].toNat->chB i b=(decide (97<=b) && decide (b<=122) || (decide (48<=b) && decide (b<=57) || decide (b=95)) && decide (i≠0))):=hid fun b _=>rfl;obtain⟨b,hb⟩:∃ b,b=s[i].toNat:=⟨_,rfl⟩;have hc:=HC.o b hb;rw[<- hb] at aF aG;have aJ:(Instr.index 9 (.string s) (.int .i64 (i:Int))).run Tryz.prog w=.ok (.int .u8 (b:Int)) w:=by
   rw[hb];rw[run_index_string (h:=Tryz.underlying9)];simp[aD]
  have aI:=hid hc;clear HC hc hb;rcases(by omega:(97<=b/\b<=122)\/(48<=b/\b<=57/\i < 1)\/(48<=b/\b<=57/\1<=i)\/(95<=b/\b<=95/\i < 1)\/(95<=b/\b<=95/\1<=i)\/(b < 48)\/(57 < b/\b < 95)\/(95 < b/\b < 97)\/(122 < b)) with h | h | h | h | h | h | h | h | h
  all_goals
   first
   | (have k5:chB i b=true:=by rw[aI.o];simp;omega)
   | (have k5:chB i b=false:=by rw[aI.o];simp;omega)
   have K5:=hid k5;clear k5
   first
   | have i1:(48:Int)<=(b:Int):=by omega
   | have i1:¬ (48:Int)<=(b:Int):=by omega
   first
   | have i2:(b:Int)<=57:=by omega
   | have i2:¬ (b:Int)<=57:=by omega
   first
   | have i3:((b:Int) == 95)=true:=by simp;omega
   | have i3:((b:Int) == 95)=false:=by simp;omega
   first
   | have i4:(b:Int) < 97:=by omega
   | have i4:¬ (b:Int) < 97:=by omega
   first
   | have i5:(122:Int) < (b:Int):=by omega
   | have i5:¬ (122:Int) < (b:Int):=by omega
   try first
    | have i6:((i:Int) == 0)=true:=by simp;omega
    | have i6:((i:Int) == 0)=false:=by simp;omega
   go_wp2_with fail
   first
   | (go_ret;exact⟨by rw[aG.o K5.o];rfl,by first | rfl | trivial⟩)
   | (go_roundw
      case rel=>exact⟨i+1,by omega,by go_num,aF.o K5.o,by first | rfl | trivial⟩
      simp[intOf];omega)
 have aC:¬ (i:Int) < (s.size:Int):=by omega
 have hv:=aA.o fun j hj=>aE.o j (by omega);have HV:=hid hv;clear hv aB aA;have hf:∀(p:Prop) [Decidable p],(p\/¬ p):=fun p _=>Decidable.em p;rcases hf (1<=s.size) with h1 | h1 <;> rcases hf (s.size<=12) with h2 | h2 <;> (try (exfalso;omega))
 all_goals
  first
  | have i1:(1:Int)<=(s.size:Int):=by omega
  | have i1:¬ (1:Int)<=(s.size:Int):=by omega
  first
  | have i2:(s.size:Int)<=12:=by omega
  | have i2:¬ (s.size:Int)<=12:=by omega
  go_wp2;go_ret;exact⟨by rw[HV.o];simp[h1,h2],by first | rfl | trivial⟩
def Hi(x:ChV)(n:Int):Bool:=(decide (0<=x.from_) && (decide (x.from_ < n) && (decide (0<=x.to_) && (decide (x.to_ < n) && (decide (x.from_≠x.to_) && (decide (0<=x.late) && decide (x.late<=4096))))))) &&
 (x.queue && (decide (1<=x.cap) && decide (x.cap<=8)) || !x.queue && decide (x.cap=0))
theorem Xg(x:ChV)(n:Int)(w:World):Calls Tryz.prog 91 #[cv x,.int .i64 n] w (Ans (.bool (Hi x n)) w):=by
 obtain⟨f,t,q,c,m,l⟩:=x;have HV:Hd (∀ v,v=Hi ⟨f,t,q,c,m,l⟩ n->v=((decide (0<=f) && (decide (f < n) && (decide (0<=t) && (decide (t < n) && (decide (f≠t) && (decide (0<=l) && decide (l<=4096))))))) && (q && (decide (1<=c) && decide (c<=8)) || !q && decide (c=0)))):=hid fun v h=>h;obtain⟨v,hv⟩:∃ v,v=Hi ⟨f,t,q,c,m,l⟩ n:=⟨_,rfl⟩;have aF:=hid (HV.o v hv);rw[<- hv];clear hv HV;go_in;have hf:∀(p:Prop) [Decidable p],(p\/¬ p):=fun p _=>Decidable.em p;rcases(by omega:f < 0\/(0<=f/\n<=f)\/(0<=f/\f < n/\t < 0)\/(0<=f/\f < n/\0<=t/\n<=t)\/(0<=f/\f < n/\0<=t/\t < n/\f<=t/\t<=f)\/(0<=f/\f < n/\0<=t/\t < n/\(f < t\/t < f)/\l < 0)\/(0<=f/\f < n/\0<=t/\t < n/\(f < t\/t < f)/\4096 < l)\/(0<=f/\f < n/\0<=t/\t < n/\(f < t\/t < f)/\0<=l/\l<=4096)) with h | h | h | h | h | h | h | h
 case inr.inr.inr.inr.inr.inr.inr =>
  have aB:v=(q && (decide (1<=c) && decide (c<=8)) || !q && decide (c=0)):=by
   rw[aF.o,Ae (show 0<=f by omega),Ae (show f < n by omega),Ae (show 0<=t by omega),Ae (show t < n by omega),Ae (show f≠t by omega),Ae (show 0<=l by omega),Ae (show l<=4096 by omega)];rfl
  have aD:=hid aB;clear aB;have i1:¬ f < 0:=by omega
  have i2:¬ n<=f:=by omega
  have i3:¬ t < 0:=by omega
  have i4:¬ n<=t:=by omega
  have i5:(f == t)=false:=Ak.2 (by omega);have i6:¬ l < 0:=by omega
  have i7:¬ 4096 < l:=by omega
  clear h;cases q with
  | false =>
   rcases hf (c=0) with hc | hc
   ·have i8:(c == 0)=true:=by rw[hc];rfl
    have aA:v=true:=by rw[aD.o,hc];rfl
    have aC:=hid aA;clear hc aA;go_wp2;go_ret;exact Ans.mk (by rw[aC.o];rfl) (bl1 _ _)
   have i8:(c == 0)=false:=Ak.2 hc;have aA:v=false:=by rw[aD.o,Ac hc];rfl
   have aC:=hid aA;clear hc aA;go_wp2;go_ret;exact Ans.mk (by rw[aC.o];rfl) (bl1 _ _)
  | true =>
   rcases hf (1<=c) with hc | hc <;> rcases hf (c<=8) with hd | hd <;> (try (exfalso;omega))
   all_goals
    have aE:v=(decide (1<=c) && decide (c<=8)):=by rw[aD.o];simp
    first
    | have aA:v=true:=by rw[aE,Ae hc,Ae hd];rfl
    | have aA:v=false:=by rw[aE,Ac hc];rfl
    | have aA:v=false:=by rw[aE,Ac hd,Bool.and_false]
    have aC:=hid aA;clear aA aE;go_wp2;go_ret;exact Ans.mk (by rw[aC.o];rfl) (bl1 _ _)
 all_goals
  have aB:v=false:=by
   rw[aF.o]
   first
   | rw[Ac (show ¬ 0<=f by omega)];rfl
   | rw[Ac (show ¬ f < n by omega)];simp
   | rw[Ac (show ¬ 0<=t by omega)];simp
   | rw[Ac (show ¬ t < n by omega)];simp
   | rw[Ac (show ¬ f≠t by omega)];simp
   | rw[Ac (show ¬ 0<=l by omega)];simp
   | rw[Ac (show ¬ l<=4096 by omega)];simp
  have aD:=hid aB;clear aB
  try first
   | have i1:f < 0:=by omega
   | have i1:¬ (f < 0):=by omega
  try first
   | have i2:n<=f:=by omega
   | have i2:¬ (n<=f):=by omega
  try first
   | have i3:t < 0:=by omega
   | have i3:¬ (t < 0):=by omega
  try first
   | have i4:n<=t:=by omega
   | have i4:¬ (n<=t):=by omega
  try first
   | have i5:(f == t)=true:=Ck.2 (by omega)
   | have i5:(f == t)=false:=Ak.2 (by omega)
  try first
   | have i6:l < 0:=by omega
   | have i6:¬ (l < 0):=by omega
  try first
   | have i7:4096 < l:=by omega
   | have i7:¬ (4096 < l):=by omega
  clear h;go_wp2;go_ret;exact Ans.mk (by rw[aD.o];rfl) (bl1 _ _)
def Fm(q:Int×Int):Bool:=(decide (0<=q.1) && decide (q.1 < 512)) && (decide (0<=q.2) && decide (q.2<=255))
def hlF(h:Int):Bool:=decide (0<=h) && decide (h<=2)
def pbF(b p:Int):Bool:=(decide (b=0) && decide (p=0)) || ((decide (1<=b) && decide (b<=4096)) && (decide (b<=p) && decide (p<=4096)))
def hv5(x:PtV)(j:Nat):Int:=if j=0 then x.h0 else if j=1 then x.h1 else if j=2 then x.h2 else if j=3 then x.h3 else x.h4
def Fg(x:PtV)(L:List (Int×Int)):Bool:=(decide (1<=x.pn) && decide (x.pn<=3)) && (L.all Fm && ((List.range 5).all (fun j=>hlF (hv5 x j)) && pbF x.bud x.per))
theorem Yh{x:PtV}{L:List (Int×Int)}(h:¬ (1<=x.pn/\x.pn<=3)):Fg x L=false:=by
 unfold Fg;rcases(by omega:x.pn < 1\/3 < x.pn) with h1 | h1
 ·rw[Ac (show ¬ 1<=x.pn by omega)];rfl
 rw[Ac (show ¬ x.pn<=3 by omega)];simp
theorem Ux{x:PtV}{L:List (Int×Int)}{i:Nat}{q:Int×Int}(hq:L[i]? = some q)(h:Fm q=false):Fg x L=false:=by
 unfold Fg;have:L.all Fm=false:=by
  rw[List.all_eq_false];exact⟨q,An hq,by rw[h];simp⟩
 rw[this];simp
theorem Uy{x:PtV}{L:List (Int×Int)}{j:Nat}(hj:j < 5)(h:hlF (hv5 x j)=false):Fg x L=false:=by
 unfold Fg;have:(List.range 5).all (fun j=>hlF (hv5 x j))=false:=by
  rw[List.all_eq_false];exact⟨j,Cx.2 hj,by rw[h];simp⟩
 rw[this];simp
theorem P7{x:PtV}{L:List (Int×Int)}(h1:1<=x.pn)(h3:x.pn<=3)(hp:∀(j:Nat) (q:Int×Int),L[j]? = some q->Fm q=true)(hh:∀ j,j < 5->hlF (hv5 x j)=true):Fg x L=pbF x.bud x.per:=by
 unfold Fg;have e1:L.all Fm=true:=by
  rw[Ct];intro q hq;obtain⟨i,hi⟩:=Bl hq;exact hp i q hi
 have e2:(List.range 5).all (fun j=>hlF (hv5 x j))=true:=by
  rw[Ct];exact fun j hj=>hh j (Cx.1 hj)
 rw[e1,e2,Ae h1,Ae h3];rfl
theorem Xe(x:PtV)(L:List (Int×Int))(w:World)(h:RdB prc w w.heap.size x.pa x.pn L):Calls Tryz.prog 90 #[pv x] w (Ans (.bool (Fg x L)) w):=by
 have aG:=hid fun h=>Yh (x:=x) (L:=L) h;have aF:=hid fun i q (hq:L[i]? = some q) h=>Ux (x:=x) hq h;have aB:=hid fun j (hj:j < 5) h=>Uy (x:=x) (L:=L) hj h;have aH:=hid (fun h1 h3 hp hh=>P7 h1 h3 hp hh:1<=x.pn->x.pn<=3->(∀(j:Nat) (q:Int×Int),L[j]? = some q->Fm q=true)->(∀ j,j < 5->hlF (hv5 x j)=true)->Fg x L=pbF x.bud x.per);generalize Fg x L=v at aG aF aB aH |-;obtain⟨nm,bu,pe,sc,st,pa,pn,pc,h0,h1,h2,h3,h4⟩:=x;dsimp only at h aG aF aB aH;go_in;by_cases aY:pn < 1
 ·have aJ:(pn:Int) < 1:=by omega
  have HV:=hid (aG.o (by omega));clear aG aF aB aH h;go_wp2;go_ret;exact Ans.mk (by rw[HV.o];rfl) (bl1 _ _)
 by_cases aX:3 < pn
 ·have aO:(3:Int) < (pn:Int):=by omega
  have aJ:¬ (pn:Int) < 1:=by omega
  have HV:=hid (aG.o (by omega));clear aG aF aB aH h;go_wp2;go_ret;exact Ans.mk (by rw[HV.o];rfl) (bl1 _ _)
 have aO:¬ (3:Int) < (pn:Int):=by omega
 have aJ:¬ (pn:Int) < 1:=by omega
 clear aG;go_wp2_with fail;have aD:=bl1 w (.cells #[.string nm,.int .i64 bu,.int .i64 pe,.bool sc,.bool st,.slice pa pn pc,.int .i64 h0,.int .i64 h1,.int .i64 h2,.int .i64 h3,.int .i64 h4] 60);have n1:(w.alloc (.cells #[.string nm,.int .i64 bu,.int .i64 pe,.bool sc,.bool st,.slice pa pn pc,.int .i64 h0,.int .i64 h1,.int .i64 h2,.int .i64 h3,.int .i64 h4] 60)).cell? ⟨w.heap.size,1,none⟩=some (.int .i64 bu):=Ab _ _ _ _ _;have n2:(w.alloc (.cells #[.string nm,.int .i64 bu,.int .i64 pe,.bool sc,.bool st,.slice pa pn pc,.int .i64 h0,.int .i64 h1,.int .i64 h2,.int .i64 h3,.int .i64 h4] 60)).cell? ⟨w.heap.size,2,none⟩=some (.int .i64 pe):=Ab _ _ _ _ _;have n6:(w.alloc (.cells #[.string nm,.int .i64 bu,.int .i64 pe,.bool sc,.bool st,.slice pa pn pc,.int .i64 h0,.int .i64 h1,.int .i64 h2,.int .i64 h3,.int .i64 h4] 60)).cell? ⟨w.heap.size,6,none⟩=some (.int .i64 h0):=Ab _ _ _ _ _;have n7:(w.alloc (.cells #[.string nm,.int .i64 bu,.int .i64 pe,.bool sc,.bool st,.slice pa pn pc,.int .i64 h0,.int .i64 h1,.int .i64 h2,.int .i64 h3,.int .i64 h4] 60)).cell? ⟨w.heap.size,7,none⟩=some (.int .i64 h1):=Ab _ _ _ _ _;have n8:(w.alloc (.cells #[.string nm,.int .i64 bu,.int .i64 pe,.bool sc,.bool st,.slice pa pn pc,.int .i64 h0,.int .i64 h1,.int .i64 h2,.int .i64 h3,.int .i64 h4] 60)).cell? ⟨w.heap.size,8,none⟩=some (.int .i64 h2):=Ab _ _ _ _ _;have n9:(w.alloc (.cells #[.string nm,.int .i64 bu,.int .i64 pe,.bool sc,.bool st,.slice pa pn pc,.int .i64 h0,.int .i64 h1,.int .i64 h2,.int .i64 h3,.int .i64 h4] 60)).cell? ⟨w.heap.size,9,none⟩=some (.int .i64 h3):=Ab _ _ _ _ _;have aI:(w.alloc (.cells #[.string nm,.int .i64 bu,.int .i64 pe,.bool sc,.bool st,.slice pa pn pc,.int .i64 h0,.int .i64 h1,.int .i64 h2,.int .i64 h3,.int .i64 h4] 60)).cell? ⟨w.heap.size,10,none⟩=some (.int .i64 h4):=Ab _ _ _ _ _;have aQ:w.heap.size < (w.alloc (.cells #[.string nm,.int .i64 bu,.int .i64 pe,.bool sc,.bool st,.slice pa pn pc,.int .i64 h0,.int .i64 h1,.int .i64 h2,.int .i64 h3,.int .i64 h4] 60)).heap.size:=by simp
 have aN:=h.on aD;generalize w.alloc (.cells #[.string nm,.int .i64 bu,.int .i64 pe,.bool sc,.bool st,.slice pa pn pc,.int .i64 h0,.int .i64 h1,.int .i64 h2,.int .i64 h3,.int .i64 h4] 60)=W at n1 n2 n6 n7 n8 n9 aI aD aQ aN |-;obtain⟨g,hg⟩:∃ g,g=w.heap.size:=⟨_,rfl⟩;rw[<- hg] at n1 n2 n6 n7 n8 n9 aI aQ |-;have HG:=hid hg;clear hg h;have HN:=hid fun W' (hb:Below W.heap.size W W') (o:Nat) v (hv:W.cell? ⟨g,o,none⟩=some v)=>(hb.cell (p:=⟨g,o,none⟩) aQ).trans hv;have N1:=hid n1;have N2:=hid n2;have N6:=hid n6;have N7:=hid n7;have N8:=hid n8;have N9:=hid n9;have aV:=hid aI;clear n1 n2 n6 n7 n8 n9 aI;go_loopw [4,20] (fun _ s wr=>∃ i:Nat,i<=pn/\s=.int .i64 i/\(∀(j:Nat) (q:Int×Int),j < i->L[j]? = some q->Fm q=true)/\Below W.heap.size W wr) (fun _ s _=>pn - (intOf s).toNat)
 case atStart=>exact⟨0,by omega,rfl,fun j q hj=>by omega,Aj _ _⟩
 obtain⟨i,hi,rfl,aK,hb⟩:=hrel;have aA:=hid aK;clear aK;by_cases aT:i < pn
 ·obtain⟨ad,q,rfl,bA,hx,c0,ck⟩:=(aN.on hb).at_ F5 (by omega) aT;have d0:=c0 _ rfl;have d1:=ck 1 _ (by omega) rfl;obtain⟨e,p⟩:=q;dsimp only at d0 d1;have aL:Hd (Fm (e,p)=true->∀(j:Nat) (q:Int×Int),j < i+1->L[j]? = some q->Fm q=true):=hid fun h j q hj hq=>by
   rcases Bk j i with h5 | h5
   ·exact aA.o j q h5 hq
   obtain rfl:j=i:=by omega
   rw[hx] at hq;injection hq with hq;rw[<- hq];exact h
  have aM:=hid (aF.o i _ hx);have HB:=hid (hb.trans ((bl1 wr (.cells #[.int .i64 e,.int .i64 p] 62)).mono hb.size));have aE:Hd (Fm (e,p)=((decide (0<=e) && decide (e < 512)) && (decide (0<=p) && decide (p<=255)))):=hid rfl;clear c0 ck hx aA aF aB aH;rcases(by omega:e < 0\/512<=e\/(0<=e/\e < 512/\p < 0)\/(0<=e/\e < 512/\255 < p)\/(0<=e/\e < 512/\0<=p/\p<=255)) with h5 | h5 | h5 | h5 | h5
  all_goals
   first
   | (have k5:Fm (e,p)=true:=by
       rw[aE.o,Ae (show 0<=e by omega),Ae (show e < 512 by omega),Ae (show 0<=p by omega),Ae (show p<=255 by omega)];rfl)
   | (have k5:Fm (e,p)=false:=by
       rw[aE.o]
       first
       | rw[Ac (show ¬ 0<=e by omega)];rfl
       | rw[Ac (show ¬ e < 512 by omega)];simp
       | rw[Ac (show ¬ 0<=p by omega)];simp
       | rw[Ac (show ¬ p<=255 by omega)];simp)
   have K5:=hid k5;clear k5
   try first
    | have i1:e < 0:=by omega
    | have i1:¬ e < 0:=by omega
   try first
    | have i2:512<=e:=by omega
    | have i2:¬ 512<=e:=by omega
   try first
    | have i3:p < 0:=by omega
    | have i3:¬ p < 0:=by omega
   try first
    | have i4:255 < p:=by omega
    | have i4:¬ 255 < p:=by omega
   clear h5;go_wp2_with fail
   first
   | (go_ret;exact Ans.mk (by rw[aM.o K5.o];rfl) (aD.trans (HB.o.mono aD.size)))
   | (go_roundw
      case rel=>exact⟨i+1,by omega,by go_num,aL.o K5.o,HB.o⟩
      simp[intOf];omega)
 have aZ:pn<=i:=by omega
 have aR:Hd (∀(j:Nat) (q:Int×Int),L[j]? = some q->Fm q=true):=hid fun j q hq=>aA.o j q (by have:=(Af.1 hq).1;have:=aN.len;omega) hq;have aC:=hid (aH.o (by omega) (by omega) aR.o);have n1:=HN.o wr hb 1 _ N1.o;have n2:=HN.o wr hb 2 _ N2.o;have n6:=HN.o wr hb 6 _ N6.o;have n7:=HN.o wr hb 7 _ N7.o;have n8:=HN.o wr hb 8 _ N8.o;have n9:=HN.o wr hb 9 _ N9.o;have aI:=HN.o wr hb 10 _ aV.o;clear aH aR aA aF;go_wp2_with fail;clear n6 n7 n8 n9 aI;have HX:Hd (∀ j:Nat,hv5 ⟨nm,bu,pe,sc,st,pa,pn,pc,h0,h1,h2,h3,h4⟩ j=if j=0 then h0 else if j=1 then h1 else if j=2 then h2 else if j=3 then h3 else h4):=hid fun j=>rfl;generalize hv5 ⟨nm,bu,pe,sc,st,pa,pn,pc,h0,h1,h2,h3,h4⟩=hf at HX aC aB;go_loopw [6,45] (fun _ s wx=>∃ j:Nat,j<=5/\s=.int .i64 j/\(∀ k,k < j->hlF (hf k)=true)/\Below W.heap.size W wx) (fun _ s _=>5 - (intOf s).toNat)
 case atStart=>exact⟨0,by omega,rfl,fun k hk=>by omega,hb⟩
 obtain⟨j,hj,rfl,aK,hb⟩:=hrel;have aA:=hid aK;clear aK;by_cases aU:j < 5
 ·have hz:∀ W,(Instr.index 58 (.agg #[Value.int .i64 h0,.int .i64 h1,.int .i64 h2,.int .i64 h3,.int .i64 h4]) (.int .i64 (j:Int))).run Tryz.prog W=.ok (.int .i64 (hf j)) W:=by
   rcases(by omega:j=0\/j=1\/j=2\/j=3\/j=4) with rfl | rfl | rfl | rfl | rfl
   ·rw[show hf 0=h0 from HX.o 0];exact fun W=>by simp[Instr.index,go_sem]
   ·rw[show hf 1=h1 from HX.o 1];exact fun W=>by simp[Instr.index,go_sem]
   ·rw[show hf 2=h2 from HX.o 2];exact fun W=>by simp[Instr.index,go_sem]
   ·rw[show hf 3=h3 from HX.o 3];exact fun W=>by simp[Instr.index,go_sem]
   rw[show hf 4=h4 from HX.o 4];exact fun W=>by simp[Instr.index,go_sem]
  have aP:(j:Int) < 5:=by omega
  have aL:Hd (hlF (hf j)=true->∀ k,k < j+1->hlF (hf k)=true):=hid fun h k hk=>by
   rcases Bk k j with h5 | h5
   ·exact aA.o k h5
   obtain rfl:k=j:=by omega
   exact h
  have aM:=hid (aB.o j aU);clear HX aB aC aA;generalize hf j=z at hz aL aM;have aE:Hd (hlF z=(decide (0<=z) && decide (z<=2))):=hid rfl;rcases(by omega:z < 0\/2 < z\/(0<=z/\z<=2)) with h5 | h5 | h5
  all_goals
   first
   | (have k5:hlF z=true:=by
       rw[aE.o,Ae (show 0<=z by omega),Ae (show z<=2 by omega)];rfl)
   | (have k5:hlF z=false:=by
       rw[aE.o]
       first
       | rw[Ac (show ¬ 0<=z by omega)];rfl
       | rw[Ac (show ¬ z<=2 by omega)];simp)
   have K5:=hid k5;clear k5
   try first
    | have i1:z < 0:=by omega
    | have i1:¬ z < 0:=by omega
   try first
    | have i2:2 < z:=by omega
    | have i2:¬ 2 < z:=by omega
   clear h5;go_wp2_with fail
   first
   | (go_ret;exact Ans.mk (by rw[aM.o K5.o];rfl) (aD.trans (hb.mono aD.size)))
   | (go_roundw
      case rel=>exact⟨j+1,by omega,by go_num,aL.o K5.o,hb⟩
      simp[intOf];omega)
 have aP:¬ (j:Int) < 5:=by omega
 have n1:=HN.o wr hb 1 _ N1.o;have n2:=HN.o wr hb 2 _ N2.o;have HV:=hid (aC.o fun k hk=>aA.o k (by omega));have aE:Hd (pbF bu pe=((decide (bu=0) && decide (pe=0)) || ((decide (1<=bu) && decide (bu<=4096)) && (decide (bu<=pe) && decide (pe<=4096))))):=hid rfl;clear aC aA HX aB;rcases(by omega:(bu=0/\pe=0)\/(bu=0/\pe≠0)\/bu < 0\/(4096 < bu)\/(1<=bu/\bu<=4096/\pe < bu)\/(1<=bu/\bu<=4096/\bu<=pe/\4096 < pe)\/(1<=bu/\bu<=4096/\bu<=pe/\pe<=4096)) with h5 | h5 | h5 | h5 | h5 | h5 | h5
 all_goals
  first
  | (have k5:v=true:=by
      rw[HV.o,aE.o]
      first
      | rw[Ae (show bu=0 by omega),Ae (show pe=0 by omega)];rfl
      | rw[Ae (show 1<=bu by omega),Ae (show bu<=4096 by omega),Ae (show bu<=pe by omega),Ae (show pe<=4096 by omega)];simp)
  | (have k5:v=false:=by
      rw[HV.o,aE.o]
      first
      | rw[Ac (show ¬ 1<=bu by omega),Ac (show ¬ pe=0 by omega)];simp
      | rw[Ac (show ¬ bu=0 by omega)]
        first
        | rw[Ac (show ¬ 1<=bu by omega)];rfl
        | rw[Ac (show ¬ bu<=4096 by omega)];simp
        | rw[Ac (show ¬ bu<=pe by omega)];simp
        | rw[Ac (show ¬ pe<=4096 by omega)];simp)
  have K5:=hid k5;clear k5
  first
   | have i1:(bu == 0)=true:=Ck.2 (by omega)
   | have i1:(bu == 0)=false:=Ak.2 (by omega)
  try first
   | have i2:(pe == 0)=true:=Ck.2 (by omega)
   | have i2:(pe == 0)=false:=Ak.2 (by omega)
  first
   | have i3:1<=bu:=by omega
   | have i3:¬ 1<=bu:=by omega
  first
   | have i4:bu<=4096:=by omega
   | have i4:¬ bu<=4096:=by omega
  try first
   | have i5:bu<=pe:=by omega
   | have i5:¬ bu<=pe:=by omega
  try first
   | have i6:pe<=4096:=by omega
   | have i6:¬ pe<=4096:=by omega
  clear h5;go_wp2;go_ret;exact Ans.mk (by rw[K5.o];rfl) (aD.trans (hb.mono aD.size))
theorem eh(a b:ByteArray):(a == b)=decide (a=b):=by
 show (a.data == b.data)=_;by_cases h:a=b
 ·subst h;simp
 rw[Ac h];have:a.data≠b.data:=fun e=>h (ByteArray.ext e);simpa using this
theorem Et{a b:ByteArray}{q:Bool}(h:decide (a=b)=q):(a.toList == b.toList)=q:=by rw[<- beq_toListBytes,eh,h]
abbrev Pq:=PtV×List (Int×Int)
def pcq(x:Pq):List Value:=pcl x.1
theorem Fv(x:Pq):(pcq x).length=11:=rfl
structure Ro(w:World)(B:Nat)(x:Pq):Prop where
 per:Ef x.1.per
 name:x.1.name.size<=140737488351232
 procs:RdB prc w B x.1.pa x.1.pn x.2
theorem Ro.on{w w':World}{x:Pq}(h:Ro w w.heap.size x)(hb:Below w.heap.size w w'):Ro w' w'.heap.size x:=⟨h.per,h.name,h.procs.on hb⟩
theorem Wm(P:List Pq):P.flatMap pcq=(P.map Prod.fst).flatMap pcl:=by
 rw[List.flatMap_map];rfl
theorem RdB.fsts{w:World}{B n:Nat}{A:Option Addr}{P:List Pq}(h:RdB pcq w B A n P):RdB pcl w B A n (P.map Prod.fst):=⟨by rw[Bi];exact h.len,by rw[<- Wm];exact h.rd⟩
structure NdT where
 A:Option Addr
 n:Nat
 c:Nat
 l:List Nd
def tcn(t:NdT):List Value:=[.slice t.A t.n t.c]
theorem Hm(t:NdT):(tcn t).length=1:=rfl
structure Ls(w:World)(B:Nat)(t:NdT):Prop where
 rd:RdN w B t.A t.n t.l
 cap:t.n<=t.c
 few:t.n<=140737488351232
theorem Ls.on{w w':World}{t:NdT}(h:Ls w w.heap.size t)(hb:Below w.heap.size w w'):Ls w' w'.heap.size t:=⟨h.rd.on hb,h.cap,h.few⟩
noncomputable def ofF(l:List Nd):Int×List Rn :=
 if h:Eg l=true then
  (ofz l.length ((Classical.choose (Classical.choose_spec (Gd h))).dep+1) (one (Classical.choose (Gd h)) (Classical.choose (Classical.choose_spec (Gd h))).lvs),
   tidy (one (Classical.choose (Gd h)) (Classical.choose (Classical.choose_spec (Gd h))).lvs))
 else (rn l.length,[])
theorem Hz{l:List Nd}(h:Eg l=true):∃(x:Nd) (k:F),(F.cons x k .nil).ok/\l=x::k.flat/\ofF l=(ofz l.length (k.dep+1) (one x k.lvs),tidy (one x k.lvs)):=by
 have e:=Classical.choose_spec (Classical.choose_spec (Gd h));exact⟨_,_,e.1,e.2,by unfold ofF;rw[dif_pos h]⟩
theorem Lc{l:List Nd}(h:¬ Eg l=true):ofF l=(rn l.length,[]):=by unfold ofF;rw[dif_neg h]
theorem Q9{l:List Nd}(hz:(ofF l).1=0):ticks (ofF l).2<=4096/\(ofF l).2.length<=96:=by
 by_cases h:Eg l=true
 ·obtain⟨x,k,aA,hl,e⟩:=Hz h;rw[e] at hz |-;dsimp only at hz |-;obtain⟨_,_,h3,h4⟩:=L9 hz;exact⟨by rw[ticks_tidy];exact h3,h4⟩
 rw[Lc h] at hz;dsimp only at hz;unfold rn at hz;split at hz <;> omega
theorem Sp{z:Int}(hz:¬ z=0){w w':World}{e:Ending}(h:Ans (.tuple #[.slice none 0 0,.int .i64 z]) w e w'):OfG z [] w e w' :=
 ⟨none,0,0,h.1,Ag _,fun h0=>absurd h0 hz,h.2⟩
theorem So{z:Int}{T:List Rn}(hz:¬ z=0){w w':World}{e:Ending}(h:Ans (.tuple #[.slice none 0 0,.int .i64 z]) w e w'):OfG z T w e w' :=
 ⟨none,0,0,h.1,Ag _,fun h0=>absurd h0 hz,h.2⟩
theorem Wp{l:List Nd}(h:128 < l.length):(ofF l).1=3:=by
 by_cases hw:Eg l=true
 ·obtain⟨x,k,_,_,e⟩:=Hz hw;rw[e];show ofz l.length _ _=3;have e3:rt l.length (k.dep+1) (ticks (one x k.lvs))=3:=by unfold rt;rw[if_pos h]
  unfold ofz;rw[e3,if_neg (by decide)]
 rw[Lc hw];exact if_pos h
theorem ai(t:NdT)(w:World)(h:Ls w w.heap.size t):Calls Tryz.prog 51 #[.slice t.A t.n t.c] w (OfG (ofF t.l).1 (ofF t.l).2 w):=by
 have hl:=h.rd.len;by_cases hb:128 < t.n
 ·have hn:¬ (3:Int)=0:=by decide
  rw[Wp (by rw[hl];exact hb)];refine(L5 t.A t.n t.c w _ ?_ hn).mono fun _ _ k=>So hn k;have aC:(128:Int) < (t.n:Int):=by omega
  clear h hl hb;go_in;go_wp2;go_ret;exact Ans.mk rfl (Aj _ _)
 by_cases hw:Eg t.l=true
 ·obtain⟨x,k,aB,he,e⟩:=Hz hw;rw[e];have hr:=h.rd;rw[he] at hr hl |-;rw[hl];exact Wi t.A t.n t.c x k w hr h.cap aB (by omega)
 have aA:Eg t.l=false:=by simpa using hw
 rw[Lc hw,hl];have hn:¬ rn t.n=0:=by unfold rn;split <;> omega
 exact(L5 t.A t.n t.c w _ (Mp t.A t.n t.c t.l w h.rd h.cap (by omega) aA) hn).mono fun _ _ k=>Sp hn k
def ptW(P:List Pq)(i:Nat)(x:Pq):Int:=if (!nameF x.1.name || (P.take i).any (fun y=>decide (y.1.name=x.1.name)))=true then 15 else if Fg x.1 x.2=true then 0 else 16
def ptE(P:List Pq)(i:Nat):Int:=match P[i]? with | some x=>ptW P i x | none=>0
def chE(C:List ChV)(n:Nat)(i:Nat):Int:=match C[i]? with | some x=>if Hi x n=true then 0 else 17 | none=>0
noncomputable def tbW(P:List Pq)(C:List ChV)(l:List Nd):Int :=
 if (ofF l).1=0 then (if (ofF l).2.any (fun r=>decide ((P.length:Int)<=r.p))=true then 16 else E4 (Dx (ofF l).2) (P.map Prod.fst) C) else (ofF l).1
noncomputable def tbE(P:List Pq)(C:List ChV)(T:List NdT)(i:Nat):Int:=match T[i]? with | some t=>tbW P C t.l | none=>0
def Iw(f:Nat->Int)(n:Nat):Option Nat:=(List.range n).find? (fun i=>f i != 0)
theorem Jn{f:Nat->Int}{n i:Nat}(hi:i < n)(h0:∀ j,j < i->f j=0)(h:f i≠0):Iw f n=some i:=by
 unfold Iw;rw[List.find?_eq_some_iff_append];refine⟨by simpa using h,List.range i,(List.range' (i+1) (n - i - 1)),?_,fun a ha=>?_⟩
 ·apply List.ext_getElem?;intro k;rw[List.getElem?_append];simp only[List.length_range];split
  ·rename_i hk;rw[List.getElem?_range (by omega),List.getElem?_range hk]
  rename_i hk;by_cases aA:k < n
  ·rw[List.getElem?_range aA,List.getElem?_cons];split
   ·congr 1;omega
   rw[List.getElem?_range' (by omega)];congr 1;omega
  rw[Bw (by simp;omega),Bw (by simp;omega)]
 have:=h0 a (Cx.1 ha);simp[this]
theorem F3{f:Nat->Int}{n:Nat}(h0:∀ j,j < n->f j=0):Iw f n=none:=by
 unfold Iw;rw[List.find?_eq_none];intro a ha;simp[h0 a (Cx.1 ha)]
def Eu(P:List Pq)(C:List ChV)(T:List NdT):Prop:=1<=P.length/\P.length<=6/\C.length<=8/\1<=T.length/\T.length<=3
instance (P:List Pq) (C:List ChV) (T:List NdT):Decidable (Eu P C T):=by unfold Eu;infer_instance
noncomputable def D5(P:List Pq)(C:List ChV)(T:List NdT):Int×Int :=
 if Eu P C T then
  match Iw (ptE P) P.length with
  | some i=>(ptE P i,(i:Int))
  | none=>match Iw (chE C P.length) C.length with
   | some i=>(chE C P.length i,(i:Int))
   | none=>match Iw (tbE P C T) T.length with
    | some i=>(tbE P C T i,(i:Int))
    | none=>(0,-1)
 else (3,0)
section
variable {P:List Pq} {C:List ChV} {T:List NdT}
theorem Ni(h:¬ Eu P C T):D5 P C T=(3,0):=by unfold D5;rw[if_neg h]
theorem Ml(h:Eu P C T){i:Nat}(hi:i < P.length)(h0:∀ j,j < i->ptE P j=0)(hz:ptE P i≠0):D5 P C T=(ptE P i,(i:Int)):=by
 unfold D5;rw[if_pos h,Jn hi h0 hz]
theorem Mm(h:Eu P C T)(hp:∀ j,j < P.length->ptE P j=0){i:Nat}(hi:i < C.length)(h0:∀ j,j < i->chE C P.length j=0)(hz:chE C P.length i≠0):D5 P C T=(chE C P.length i,(i:Int)):=by
 unfold D5;rw[if_pos h,F3 hp,Jn hi h0 hz]
theorem Nh(h:Eu P C T)(hp:∀ j,j < P.length->ptE P j=0)(hc:∀ j,j < C.length->chE C P.length j=0){i:Nat}(hi:i < T.length)(h0:∀ j,j < i->tbE P C T j=0)(hz:tbE P C T i≠0):D5 P C T=(tbE P C T i,(i:Int)):=by
 unfold D5;rw[if_pos h,F3 hp,F3 hc,Jn hi h0 hz]
theorem Hs(h:Eu P C T)(hp:∀ j,j < P.length->ptE P j=0)(hc:∀ j,j < C.length->chE C P.length j=0)(ht:∀ j,j < T.length->tbE P C T j=0):D5 P C T=(0,-1):=by
 unfold D5;rw[if_pos h,F3 hp,F3 hc,F3 ht]
theorem au{i:Nat}{x:Pq}(hx:P[i]? = some x)(h:nameF x.1.name=false):ptE P i=15:=by
 unfold ptE;rw[hx];show ptW P i x=15;unfold ptW;rw[h];rfl
theorem P5{i k:Nat}{x y:Pq}(hx:P[i]? = some x)(hk:k < i)(hy:P[k]? = some y)(h:(decide (y.1.name=x.1.name))=true):ptE P i=15:=by
 unfold ptE;rw[hx];show ptW P i x=15;unfold ptW;have:(P.take i).any (fun y=>decide (y.1.name=x.1.name))=true:=Ds.2 ⟨y,An (i:=k) (by rw[List.getElem?_take];simp[hk,hy]),h⟩;rw[this,Bool.or_true];rfl
theorem Wj{i:Nat}{x:Pq}(hx:P[i]? = some x)(hn:nameF x.1.name=true)(h:∀ k y,k < i->P[k]? = some y->(decide (y.1.name=x.1.name))=false):ptE P i=if Fg x.1 x.2=true then 0 else 16:=by
 unfold ptE;rw[hx];show ptW P i x=_;unfold ptW;have:(P.take i).any (fun y=>decide (y.1.name=x.1.name))=false:=by
  rw[List.any_eq_false];intro y hy;obtain⟨k,hk⟩:=Bl hy;rw[List.getElem?_take] at hk;split at hk
  ·rename_i aA;rw[h k y aA hk];decide
  cases hk
 rw[this,hn];rfl
theorem Vs{n i:Nat}{x:ChV}(hx:C[i]? = some x):chE C n i=if Hi x n=true then 0 else 17:=by unfold chE;rw[hx]
theorem Np{i:Nat}{t:NdT}(hx:T[i]? = some t):tbE P C T i=tbW P C t.l:=by unfold tbE;rw[hx]
end
theorem F7{p:Nat->Prop}{i:Nat}(h:∀ j,j < i->p j)(hi:p i):∀ j,j < i+1->p j:=fun j hj=>by
 rcases Bk j i with h1 | h1
 ·exact h j h1
 ·obtain rfl:j=i:=by omega
  exact hi
theorem Tq(A1 A2 A3:Option Addr)(n1 n2 n3 c1 c2 c3:Nat)(P:List Pq)(C:List ChV)(T:List NdT)(w:World)(hP:RdB pcq w w.heap.size A1 n1 P)(hC:RdB cc w w.heap.size A2 n2 C)(hT:RdB tcn w w.heap.size A3 n3 T)
  (hp:∀ x∈P,Ro w w.heap.size x) (ht:∀ t∈T,Ls w w.heap.size t) :
  Calls Tryz.prog 55 #[.agg #[.slice A1 n1 c1,.slice A2 n2 c2,.slice A3 n3 c3]] w (Ans (.tuple #[.int .i64 (D5 P C T).1,.int .i64 (D5 P C T).2]) w):=by
 have bH:=bl1 w (.cells #[.slice A1 n1 c1,.slice A2 n2 c2,.slice A3 n3 c3] 31);have e1:=hP.len;have e2:=hC.len;have e3:=hT.len;have aK:Hd (¬ (1<=n1/\n1<=6/\n2<=8/\1<=n3/\n3<=3)->D5 P C T=(3,0)):=hid fun h=>Ni (by unfold Eu;rw[e1,e2,e3];exact h);have WP:Hd ((1<=n1/\n1<=6/\n2<=8/\1<=n3/\n3<=3)->∀ i,i < n1->(∀ j,j < i->ptE P j=0)->ptE P i≠0->D5 P C T=(ptE P i,(i:Int))):=hid fun h i hi=>Ml (by unfold Eu;rw[e1,e2,e3];exact h) (by omega);have WC:Hd ((1<=n1/\n1<=6/\n2<=8/\1<=n3/\n3<=3)->(∀ j,j < n1->ptE P j=0)->∀ i,i < n2->(∀ j,j < i->chE C n1 j=0)->chE C n1 i≠0->D5 P C T=(chE C n1 i,(i:Int))):=hid fun h hp i hi=>by
  have:=Mm (T:=T) (by unfold Eu;rw[e1,e2,e3];exact h) (by rw[e1];exact hp) (i:=i) (by omega);rw[e1] at this;exact this
 have WT:Hd ((1<=n1/\n1<=6/\n2<=8/\1<=n3/\n3<=3)->(∀ j,j < n1->ptE P j=0)->(∀ j,j < n2->chE C n1 j=0)->∀ i,i < n3->(∀ j,j < i->tbE P C T j=0)->tbE P C T i≠0->D5 P C T=(tbE P C T i,(i:Int))):=hid fun h hp hc i hi =>
  Nh (by unfold Eu;rw[e1,e2,e3];exact h) (by rw[e1];exact hp) (by rw[e1,e2];exact hc) (i:=i) (by omega)
 have aN:Hd ((1<=n1/\n1<=6/\n2<=8/\1<=n3/\n3<=3)->(∀ j,j < n1->ptE P j=0)->(∀ j,j < n2->chE C n1 j=0)->(∀ j,j < n3->tbE P C T j=0)->D5 P C T=(0,-1)):=hid fun h hp hc ht =>
  Hs (by unfold Eu;rw[e1,e2,e3];exact h) (by rw[e1];exact hp) (by rw[e1,e2];exact hc) (by rw[e3];exact ht)
 have aO:Hd (∀ l,tbW P C l=if (ofF l).1=0 then (if (ofF l).2.any (fun r=>decide ((n1:Int)<=r.p))=true then 16 else E4 (Dx (ofF l).2) (P.map Prod.fst) C) else (ofF l).1):=hid fun l=>by unfold tbW;rw[e1]
 have dR:Hd (∀ x∈P.map Prod.fst,Ef x.per):=hid fun x hx=>by
  obtain⟨y,hy,rfl⟩:=By.1 hx;exact(hp y hy).per
 generalize D5 P C T=V at aK WP WC WT aN |-;obtain⟨V1,V2⟩:=V;dsimp only at aK WP WC WT aN |-;have HP:=hid hP;have HC:=hid hC;have HT:=hid hT;have dQ:=hid hp;have dP:=hid ht;have m0:(w.alloc (.cells #[.slice A1 n1 c1,.slice A2 n2 c2,.slice A3 n3 c3] 31)).cell? ⟨w.heap.size,0,none⟩=some (.slice A1 n1 c1):=Ab _ _ _ _ _;have m1:(w.alloc (.cells #[.slice A1 n1 c1,.slice A2 n2 c2,.slice A3 n3 c3] 31)).cell? ⟨w.heap.size,1,none⟩=some (.slice A2 n2 c2):=Ab _ _ _ _ _;have m2:(w.alloc (.cells #[.slice A1 n1 c1,.slice A2 n2 c2,.slice A3 n3 c3] 31)).cell? ⟨w.heap.size,2,none⟩=some (.slice A3 n3 c3):=Ab _ _ _ _ _;have bY:w.heap.size < (w.alloc (.cells #[.slice A1 n1 c1,.slice A2 n2 c2,.slice A3 n3 c3] 31)).heap.size:=by simp
 clear hP hC hT hp ht e1 e2 e3;go_in;by_cases qz:1<=n1/\n1<=6/\n2<=8/\1<=n3/\n3<=3
 case neg =>
  have hv:=aK.o qz;injection hv with aC aB;subst aC aB;clear aK WP WC WT aN aO;by_cases q1:(n1:Int) < 1
  ·have d1:=Ae q1;go_wp2;go_ret2;exact Ans.mk rfl (bl1 _ _)
  have d1:=Ac q1;by_cases q2:(6:Int) < (n1:Int)
  ·have d2:=Ae q2;go_wp2;go_ret2;exact Ans.mk rfl (bl1 _ _)
  have d2:=Ac q2;by_cases q3:(8:Int) < (n2:Int)
  ·have d3:=Ae q3;go_wp2;go_ret2;exact Ans.mk rfl (bl1 _ _)
  have d3:=Ac q3;by_cases q4:(n3:Int) < 1
  ·have d4:=Ae q4;go_wp2;go_ret2;exact Ans.mk rfl (bl1 _ _)
  have d4:=Ac q4;by_cases q5:(3:Int) < (n3:Int)
  ·have d5:=Ae q5;go_wp2;go_ret2;exact Ans.mk rfl (bl1 _ _)
  omega
 have WP:=hid (WP.o qz);have WC:=hid (WC.o qz);have WT:=hid (WT.o qz);have aN:=hid (aN.o qz);clear aK;have r0:1<=n1:=qz.1;have r1:n1<=6:=qz.2.1;have r2:n2<=8:=qz.2.2.1;have r3:n3<=3:=qz.2.2.2.2;have d1:decide ((n1:Int) < 1)=false:=Ac (by omega);have d2:decide ((6:Int) < (n1:Int))=false:=Ac (by omega);have d3:decide ((8:Int) < (n2:Int))=false:=Ac (by omega);have d4:decide ((n3:Int) < 1)=false:=Ac (by omega);have d5:decide ((3:Int) < (n3:Int))=false:=Ac (by omega);clear qz;go_wp2_with fail;clear d1 d2 d3 d4 d5;generalize w.alloc (.cells #[.slice A1 n1 c1,.slice A2 n2 c2,.slice A3 n3 c3] 31)=W at bH m0 m1 m2 bY |-;obtain⟨g,hg⟩:∃ g,g=w.heap.size:=⟨_,rfl⟩;rw[<- hg] at m0 m1 m2 bY |-;have HG:=hid hg;have eD:=hid bH;have HM:=hid fun(W':World) (hb:Below W.heap.size W W') (o:Nat) (v:Value) (hv:W.cell? ⟨g,o,none⟩=some v)=>(hb.cell (p:=⟨g,o,none⟩) bY).trans hv;have HW:=hid fun(W':World) (hb:Below W.heap.size W W')=>bH.trans (hb.mono bH.size);have M0:=hid m0;have M1:=hid m1;have M2:=hid m2;clear hg m0 m1 m2 bH;go_loopw [4,5,6,47] (fun _ _ _ s wr=>∃ i:Nat,i<=n1/\s=.int .i64 i/\(∀ j,j < i->ptE P j=0)/\Below W.heap.size W wr) (fun _ _ _ s _=>n1 - (intOf s).toNat)
 case atStart=>exact⟨0,by omega,rfl,fun j hj=>by omega,Aj _ _⟩
 obtain⟨i,hi,rfl,aF,hb⟩:=hrel;have aA:=hid aF;clear aF;by_cases aU:i < n1
 ·obtain⟨ad,x,rfl,cD,hx,c0,ck⟩:=(HP.o.on (HW.o _ hb)).at_ Fv (by omega) aU;have cX:=(dQ.o x (An hx)).on (HW.o _ hb);have d0:=c0 _ rfl;have d1:=ck 1 _ (by omega) rfl;have d2:=ck 2 _ (by omega) rfl;have d3:=ck 3 _ (by omega) rfl;have d4:=ck 4 _ (by omega) rfl;have d5:=ck 5 _ (by omega) rfl;have d6:=ck 6 _ (by omega) rfl;have d7:=ck 7 _ (by omega) rfl;have d8:=ck 8 _ (by omega) rfl;have d9:=ck 9 _ (by omega) rfl;have cZ:=ck 10 _ (by omega) rfl;have bL:Hd (nameF x.1.name=false->ptE P i=15):=hid fun h=>au hx h;have aT:Hd (∀(k:Nat) (y:Pq),k < i->P[k]? = some y->(decide (y.1.name=x.1.name))=true->ptE P i=15):=hid fun k y hk hy h=>P5 hx hk hy h;have bK:Hd (nameF x.1.name=true->(∀(k:Nat) (y:Pq),k < i->P[k]? = some y->(decide (y.1.name=x.1.name))=false)->ptE P i=if Fg x.1 x.2=true then 0 else 16):=hid fun hn h=>Wj hx hn h;have bA:=hid (WP.o i aU aA.o);have aD:=hid fun(h:ptE P i=0)=>F7 (p:=fun j=>ptE P j=0) aA.o h;obtain⟨⟨nm,bu,pe,sc,st,pa,pn,pc,h0,h1,h2,h3,h4⟩,L⟩:=x;dsimp only at d0 d1 d2 d3 d4 d5 d6 d7 d8 d9 cZ bL aT bK;have aM:=bl1 wr (.cells #[.string nm,.int .i64 bu,.int .i64 pe,.bool sc,.bool st,.slice pa pn pc,.int .i64 h0,.int .i64 h1,.int .i64 h2,.int .i64 h3,.int .i64 h4] 60);have bZ:=hb.trans (aM.mono hb.size);have aP:=hid (cX.on aM);have f:∀ o v,(#[Value.string nm,.int .i64 bu,.int .i64 pe,.bool sc,.bool st,.slice pa pn pc,.int .i64 h0,.int .i64 h1,.int .i64 h2,.int .i64 h3,.int .i64 h4]:Array Value)[o]? = some v->(wr.alloc (.cells #[.string nm,.int .i64 bu,.int .i64 pe,.bool sc,.bool st,.slice pa pn pc,.int .i64 h0,.int .i64 h1,.int .i64 h2,.int .i64 h3,.int .i64 h4] 60)).cell? ⟨wr.heap.size,o,none⟩=some v:=fun o v hv=>(Ab _ _ _ _ _).trans hv;have bN:wr.heap.size < (wr.alloc (.cells #[.string nm,.int .i64 bu,.int .i64 pe,.bool sc,.bool st,.slice pa pn pc,.int .i64 h0,.int .i64 h1,.int .i64 h2,.int .i64 h3,.int .i64 h4] 60)).heap.size:=by simp
  have HF:=hid f;have m0:=HM.o wr hb 0 _ M0.o;clear c0 ck hx aM cX f aA;have f0:=HF.o 0 _ rfl;have bQ:=hid (Pm nm (wr.alloc (.cells #[.string nm,.int .i64 bu,.int .i64 pe,.bool sc,.bool st,.slice pa pn pc,.int .i64 h0,.int .i64 h1,.int .i64 h2,.int .i64 h3,.int .i64 h4] 60)) aP.o.name);generalize nameF nm=bn at bL bK bQ;go_wp2_with fail;refine bQ.o.mono ?_;rintro e w5⟨rfl,rfl⟩;generalize wr.alloc (.cells #[.string nm,.int .i64 bu,.int .i64 pe,.bool sc,.bool st,.slice pa pn pc,.int .i64 h0,.int .i64 h1,.int .i64 h2,.int .i64 h3,.int .i64 h4] 60)=w5 at bZ HF aP bN bQ f0 |-;generalize wr.heap.size=gx at HF bN f0 |-;have bC:=hid bZ;have cE:=aP;have aH:=hid fun(W':World) (hb:Below w5.heap.size w5 W') (o:Nat) v hv=>((hb.cell (p:=⟨gx,o,none⟩) bN)).trans (HF.o o v hv);clear bQ HF aP bZ bN f0 d0 d1 d2 d3 d4 d5 d6 d7 d8 d9 cZ cD hb m0;cases bn
  ·have aX:=bL.o rfl;have hv:=bA.o (by rw[aX];decide);rw[aX] at hv;injection hv with aC aB;subst aC aB;clear bL aT bK bA aD aX WP WC WT aN aO;go_wp2;go_ret2;exact Ans.mk rfl (HW.o _ bC.o)
  have aR:=hid (bK.o rfl);clear bL bK;go_wp2;go_loopw [6] (fun s wx=>∃ j:Nat,j<=i/\s=.int .i64 j/\(∀ k (y:Pq),k < j->P[k]? = some y->(decide (y.1.name=nm))=false)/\Below w5.heap.size w5 wx) (fun s _=>i - (intOf s).toNat)
  case atStart=>exact⟨0,by omega,rfl,fun k y hk=>by omega,Aj _ _⟩
  obtain⟨j,hj,rfl,aF,hb⟩:=hrel;have aA:=hid aF;clear aF;have aE:=hid (bC.o.trans (hb.mono bC.o.size));by_cases dI:j < i
  ·obtain⟨dM,y,cY,cC,hy,c0,ck⟩:=(HP.o.on (HW.o _ aE.o)).at_ Fv (by omega) (show j < n1 by omega);obtain rfl:ad=dM:=by injection cY
   have d0:=c0 _ rfl;have f0:=aH.o _ hb 0 _ rfl;have m0:=HM.o _ aE.o 0 _ M0.o;have aT:=hid (aT.o j y dI hy);have bR:Hd ((decide (y.1.name=nm))=false->∀ k (y:Pq),k < j+1->P[k]? = some y->(decide (y.1.name=nm))=false):=hid fun h k y' hk aI=>by
    rcases Bk k j with h5 | h5
    ·exact aA.o k y' h5 aI
    obtain rfl:k=j:=by omega
    rw[hy] at aI;injection aI with aI;rw[<- aI];exact h
   obtain⟨⟨bS,eB,dV,dT,st2,dX,dU,dW,k0,k1,k2,k3,k4⟩,L2⟩:=y;dsimp only at d0 aT bR;have bX:(j:Int) < (i:Int):=by omega
   have dS:=hid hb;clear c0 ck hy cY cC hb aA;cases hq:decide (bS=nm) with
   | true =>
    have aX:=aT.o hq;have hv:=bA.o (by rw[aX];decide);rw[aX] at hv;injection hv with aC aB;subst aC aB;clear aT aR bA aD aX WP WC WT aN aO bR;have dH:(bS.toList == nm.toList)=true:=Et hq;go_wp2_with fail;go_quiet (fail);go_wp2;go_ret2;exact Ans.mk rfl (HW.o _ (Below.drewN aE.o nq))
   | false =>
    have cJ:=hid (bR.o hq);have dH:(bS.toList == nm.toList)=false:=Et hq;clear aT aR bR;go_wp2_with fail;go_quiet (fail);go_wp2;go_roundw
    case rel=>exact⟨j+1,by omega,by go_num,cJ.o,Below.drewN dS.o nq⟩
    simp[intOf];omega
  have bX:¬ (j:Int) < (i:Int):=by omega
  have bJ:=hid (aR.o fun k y hk hy=>aA.o k y (by omega) hy);have f0:=aH.o _ hb 0 _ rfl;have f1:=aH.o _ hb 1 _ rfl;have f2:=aH.o _ hb 2 _ rfl;have f3:=aH.o _ hb 3 _ rfl;have f4:=aH.o _ hb 4 _ rfl;have f5:=aH.o _ hb 5 _ rfl;have f6:=aH.o _ hb 6 _ rfl;have f7:=aH.o _ hb 7 _ rfl;have f8:=aH.o _ hb 8 _ rfl;have f9:=aH.o _ hb 9 _ rfl;have dL:=aH.o _ hb 10 _ rfl;have dA:=cE.o.on hb;have dB:=hid (Xe ⟨nm,bu,pe,sc,st,pa,pn,pc,h0,h1,h2,h3,h4⟩ L wr dA.procs);generalize Fg ⟨nm,bu,pe,sc,st,pa,pn,pc,h0,h1,h2,h3,h4⟩ L=b at dB bJ;clear dA hb aT aR aA;go_wp2_with fail;refine dB.o.mono ?_;rintro e w6⟨rfl,bB⟩;have dF:=hid (aE.o.trans (bB.mono aE.o.size));clear bB f0 f1 f2 f3 f4 f5 f6 f7 f8 f9 dL;cases b
  ·have aV:ptE P i=16:=bJ.o;have hv:=bA.o (by rw[aV];decide);rw[aV] at hv;injection hv with aC aB;subst aC aB;clear bJ bA aD aV WP WC WT aN aO;go_wp2;go_ret2;exact Ans.mk rfl (HW.o _ dF.o)
  have k0:ptE P i=0:=bJ.o;have aL:=hid (aD.o k0);clear k0 bJ bA aD;go_wp2;go_roundw
  case rel=>exact⟨i+1,by omega,by go_num,aL.o,dF.o⟩
  simp[intOf];omega
 have cR:n1<=i:=by omega
 have cI:Hd (∀ j,j < n1->ptE P j=0):=hid fun j hj=>aA.o j (by omega);have cG:=hid (WC.o cI.o);have cF:=hid (WT.o cI.o);have aY:=hid (aN.o cI.o);have m1:=HM.o wr hb 1 _ M1.o;clear WP WC WT aN aA;go_wp2;go_loopw [7,8,80] (fun _ _ s wx=>∃ j:Nat,j<=n2/\s=.int .i64 j/\(∀ k,k < j->chE C n1 k=0)/\Below W.heap.size W wx) (fun _ _ s _=>n2 - (intOf s).toNat)
 case atStart=>exact⟨0,by omega,rfl,fun k hk=>by omega,hb⟩
 obtain⟨j,hj,rfl,aF,hb⟩:=hrel;have aA:=hid aF;clear aF;by_cases aU:j < n2
 ·obtain⟨ad,x,rfl,cD,hx,c0,ck⟩:=(HC.o.on (HW.o _ hb)).at_ Gk (by omega) aU;have d0:=c0 _ rfl;have d1:=ck 1 _ (by omega) rfl;have d2:=ck 2 _ (by omega) rfl;have d3:=ck 3 _ (by omega) rfl;have d4:=ck 4 _ (by omega) rfl;have d5:=ck 5 _ (by omega) rfl;have HE:=hid (Vs (n:=n1) hx);have cH:=hid (cG.o j aU aA.o);have aD:=hid fun(h:chE C n1 j=0)=>F7 (p:=fun j=>chE C n1 j=0) aA.o h;obtain⟨xf,xt,xq,xc,xm,xl⟩:=x;dsimp only at d0 d1 d2 d3 d4 d5;have aM:=bl1 wr (.cells #[.int .i64 xf,.int .i64 xt,.bool xq,.int .i64 xc,.int .u32 xm,.int .i64 xl] 66);have bM:=hid (hb.trans (aM.mono hb.size));have m0:=HM.o _ bM.o 0 _ M0.o;have dC:=hid (Xg ⟨xf,xt,xq,xc,xm,xl⟩ (n1:Int));generalize Hi ⟨xf,xt,xq,xc,xm,xl⟩ (n1:Int)=b at dC HE;clear c0 ck hx aM aA;go_wp2_with fail;refine(dC.o _).mono ?_;rintro e w5⟨rfl,bG⟩;have bC:=hid (bM.o.trans (bG.mono bM.o.size));clear bG d0 d1 d2 d3 d4 d5 m0;cases b
  ·have bT:chE C n1 j=17:=HE.o;have hv:=cH.o (by rw[bT];decide);rw[bT] at hv;injection hv with aC aB;subst aC aB;clear HE cH aD bT cG cF aY aO;go_wp2;go_ret2;exact Ans.mk rfl (HW.o _ bC.o)
  have k0:chE C n1 j=0:=HE.o;have aL:=hid (aD.o k0);clear k0 HE cH aD;go_wp2;go_roundw
  case rel=>exact⟨j+1,by omega,by go_num,aL.o,bC.o⟩
  simp[intOf];omega
 have cR:n2<=j:=by omega
 have dD:Hd (∀ k,k < n2->chE C n1 k=0):=hid fun k hk=>aA.o k (by omega);have bI:=hid (cF.o dD.o);have aJ:=hid (aY.o dD.o);have m2:=HM.o wr hb 2 _ M2.o;clear cG cF aY aA;go_wp2;go_loopw [9,10,11,12,14,15,96] (fun _ _ _ _ _ _ s wx=>∃ j:Nat,j<=n3/\s=.int .i64 j/\(∀ k,k < j->tbE P C T k=0)/\Below W.heap.size W wx) (fun _ _ _ _ _ _ s _=>n3 - (intOf s).toNat)
 case atStart=>exact⟨0,by omega,rfl,fun k hk=>by omega,hb⟩
 obtain⟨j,hj,rfl,aF,hb⟩:=hrel;have aA:=hid aF;clear aF;by_cases aU:j < n3
 ·obtain⟨ad,t,rfl,cD,hx,c0,ck⟩:=(HT.o.on (HW.o _ hb)).at_ Hm (by omega) aU;have d0:=c0 _ rfl;rw[Cj] at d0;have cV:=(dP.o t (An hx)).on (HW.o _ hb);have bF:=(Np (P:=P) (C:=C) hx).trans (aO.o t.l);have aZ:=hid (bI.o j aU aA.o);have aD:=hid fun(h:tbE P C T j=0)=>F7 (p:=fun j=>tbE P C T j=0) aA.o h;have bP:=hid (ai t wr cV);have bE:=fun e=>(Q9 (l:=t.l) e).1;have bD:=fun e=>(Q9 (l:=t.l) e).2;obtain⟨A,n,c,ll⟩:=t;dsimp only at d0 bF bP bE bD;generalize (ofF ll).1=z at bP bE bD bF;generalize (ofF ll).2=L at bP bE bD bF;have bO:=hid bF;have dO:=hid bE;have dN:=hid bD;clear c0 ck hx cV bE bD bF aA;go_wp2_with fail;refine bP.o.mono ?_;rintro e w5⟨A4,n4,c4,rfl,dK,cQ,bG⟩;have bB:=hb.trans (bG.mono hb.size);clear bG d0;by_cases hz:z=0
  ·have bU:(z != 0)=false:=by rw[hz];rfl
   have hr:=cQ hz;have h4:=dO.o hz;have h5:=dN.o hz;have HR:=hid hr;have dY:n4<=96:=by rw[<- hr.len];exact h5
   have aQ:=hid (bO.o.trans (if_pos hz));clear cQ hr;subst hz;clear bO;go_wp2;go_loopw [14,112] (fun _ s wx=>∃ i:Nat,i<=n4/\s=.int .i64 i/\(∀(k:Nat) (r:Rn),k < i->L[k]? = some r->¬ (n1:Int)<=r.p)/\Below w5.heap.size w5 wx) (fun _ s _=>n4 - (intOf s).toNat)
   case atStart=>exact⟨0,by omega,rfl,fun k r hk=>by omega,Aj _ _⟩
   obtain⟨i,dZ,rfl,aF,hb⟩:=hrel;have aA:=hid aF;clear aF;have aE:=hid (bB.trans (hb.mono bB.size));by_cases bW:i < n4
   ·obtain⟨eC,r,rfl,cA,bV,e0,e1⟩:=(HR.o.on hb).at_ bW;have aM:=bl1 wr (.cells #[.int .i64 r.p,.int .i64 r.n] 129);have bM:=hid (hb.trans (aM.mono hb.size));have dG:=hid (aE.o.trans (aM.mono aE.o.size));have m0:=HM.o _ dG.o 0 _ M0.o;have cL:Hd (¬ (n1:Int)<=r.p->∀(k:Nat) (r:Rn),k < i+1->L[k]? = some r->¬ (n1:Int)<=r.p):=hid fun h k r' hk aI=>by
     rcases Bk k i with h5 | h5
     ·exact aA.o k r' h5 aI
     obtain rfl:k=i:=by omega
     rw[bV] at aI;injection aI with aI;rw[<- aI];exact h
    have cO:Hd ((n1:Int)<=r.p->L.any (fun r=>decide ((n1:Int)<=r.p))=true):=hid fun h=>Ds.2 ⟨r,An bV,Ae h⟩;clear aM bV cA hb aA;by_cases cP:(n1:Int)<=r.p
    ·have aV:tbE P C T j=16:=by
      have e:=aQ.o;rw[cO.o cP] at e;exact e
     have hv:=aZ.o (by rw[aV];decide);rw[aV] at hv;injection hv with aC aB;subst aC aB;clear aQ aZ aD aV bI aJ aO cL cO;go_wp2;go_ret2;exact Ans.mk rfl (HW.o _ dG.o)
    have cK:=hid (cL.o cP);clear cL cO;go_wp2;go_roundw
    case rel=>exact⟨i+1,by omega,by go_num,cK.o,bM.o⟩
    simp[intOf];omega
   have dJ:n4<=i:=by omega
   have aG:Hd (tbE P C T j=E4 (Dx L) (P.map Prod.fst) C):=hid (by
    have e:=aQ.o;have ha:L.any (fun r=>decide ((n1:Int)<=r.p))=false:=by
     rw[List.any_eq_false];intro r hr;obtain⟨k,hk⟩:=Bl hr;have:=aA.o k r (by have:=(Af.1 hk).1;have:=HR.o.len;omega) hk;simpa using this
    rw[ha] at e;exact e)
   have m0:=HM.o _ aE.o 0 _ M0.o;have m1:=HM.o _ aE.o 1 _ M1.o;have m2:=HM.o _ aE.o 2 _ M2.o;have cM:=hid (Vh A1 A2 (some ad) A4 n1 n2 n3 n4 c1 c2 c3 c4 (P.map Prod.fst) C L wr (HP.o.on (HW.o _ aE.o)).fsts (HC.o.on (HW.o _ aE.o)) (HR.o.on hb) (by omega) (by omega) dK (by omega) (by omega) dR.o);generalize E4 (Dx L) (P.map Prod.fst) C=z at cM aG;clear hb aQ aA;go_wp2_with fail;refine cM.o.mono ?_;rintro e w7⟨rfl,cU⟩;have dE:=hid (aE.o.trans (cU.mono aE.o.size));clear cU m0 m1 m2 cM;by_cases hz:z=0
   ·have bU:(z != 0)=false:=by rw[hz];rfl
    have aL:=hid (aD.o (aG.o.trans hz));clear aG aD aZ;subst hz;go_wp2;go_roundw
    case rel=>exact⟨j+1,by omega,by go_num,aL.o,dE.o⟩
    simp[intOf];omega
   have bU:(z != 0)=true:=Bz.2 hz;have hv:=aZ.o (by rw[aG.o];exact hz);rw[aG.o] at hv;injection hv with aC aB;subst aC aB;clear aG aZ aD bI aJ aO;go_wp2;go_ret2;exact Ans.mk rfl (HW.o _ dE.o)
  have bU:(z != 0)=true:=Bz.2 hz;have kz:tbE P C T j=z:=bO.o.trans (if_neg hz);have hv:=aZ.o (by rw[kz];exact hz);rw[kz] at hv;injection hv with aC aB;subst aC aB;clear bO aZ aD kz bI aJ aO;go_wp2;go_ret2;exact Ans.mk rfl (HW.o _ bB)
 have cR:n3<=j:=by omega
 have hv:=aJ.o fun k hk=>aA.o k (by omega);injection hv with aC aB;subst aC aB;clear bI aJ aO aA;go_wp2;go_ret2;exact Ans.mk rfl (HW.o _ hb)
theorem Kh(A1 A2 A3:Option Addr)(n1 n2 n3 c1 c2 c3:Nat)(P:List Pq)(C:List ChV)(T:List NdT)(w:World)(hP:RdB pcq w w.heap.size A1 n1 P)(hC:RdB cc w w.heap.size A2 n2 C)(hT:RdB tcn w w.heap.size A3 n3 T)
  (hp:∀ x∈P,Ro w w.heap.size x) (ht:∀ t∈T,Ls w w.heap.size t) :
  Calls Tryz.prog 27 #[.agg #[.slice A1 n1 c1,.slice A2 n2 c2,.slice A3 n3 c3]] w (Ans (.int .i64 (D5 P C T).1) w):=by
 have aA:=bl1 w (.cells #[.slice A1 n1 c1,.slice A2 n2 c2,.slice A3 n3 c3] 31);have HW:=hid (Tq A1 A2 A3 n1 n2 n3 c1 c2 c3 P C T _ (hP.on aA) (hC.on aA) (hT.on aA) (fun x hx=>(hp x hx).on aA) (fun t aB=>(ht t aB).on aA));clear hP hC hT hp ht;go_in;go_wp2_with fail;refine HW.o.mono ?_;rintro e w5⟨rfl,aC⟩;go_wp2;go_ret;exact Ans.mk rfl (aA.trans (aC.mono aA.size))
end Go.Proofs.YtfmndmhjjbeokaaGreatDoor
namespace Go.Proofs.YtfmndmhjjbeokaaGreatDoor
namespace Tab
def leafN(r:Rn):Nd:=if r.p=-1 then ⟨2,0,(r.n:Int)⟩ else ⟨1,r.p,(r.n:Int)⟩
def itemsF:List Rn->F
 | []=>.nil
 | r::s=>.cons (leafN r) .nil (itemsF s)
def wrapF(g:F):F:=if g.cnt=1 then g else .cons ⟨3,0,(g.cnt:Int)⟩ g .nil
def timesF:Nat->F->F
 | 0,_=>.nil
 | n+1,g=>g.app (timesF n g)
def foldF(n:Nat)(g:F):F:=.cons ⟨4,0,(n:Int)⟩ (wrapF g) .nil
def wide:F->Prop
 | .nil=>True
 | .cons x k r=>2 ^ k.dep<=(one x k.lvs).length*(one x k.lvs).length/\wide r
structure Folds(f f':F):Prop where
 ex:∃(a g b:F) (n:Nat),f=a.app ((timesF n g).app b)/\f'=a.app ((foldF n g).app b)/\2<=n/\1<=g.cnt/\(if g.cnt=1 then 1 else 2) < g.sz*(n - 1)
structure Items(L:List Rn)(f:F):Prop where
 lvs:f.lvs=L
 ok:f.ok
 cnt:1<=f.cnt/\f.cnt<=L.length
 wide:Tab.wide f
 sz:f=itemsF L\/f.sz+1<=L.length
