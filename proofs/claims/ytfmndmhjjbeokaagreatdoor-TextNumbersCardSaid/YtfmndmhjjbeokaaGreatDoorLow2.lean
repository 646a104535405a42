import Derived.Test.YtfmndmhjjbeokaaGreatDoorLow1
import Derived.LoopTactic
set_option maxHeartbeats 1600000
set_option maxRecDepth 100000
set_option linter.unusedSimpArgs false
set_option linter.unusedVariables false
namespace Go.Proofs.YtfmndmhjjbeokaaGreatDoor
open Go.RowKit Tab
theorem elN:Elt 34 54 3 24 (.agg #[.int .i64 0,.int .i64 0,.int .i64 0]):=⟨Tryz.underlying34,by kernel_rfl,rfl,by omega⟩
theorem elO:Elt 152 174 2 16 (.agg #[.int .i64 0,.int .i64 0]):=⟨Tryz.underlying152,by kernel_rfl,rfl,by omega⟩
theorem elI:Elt 23 3 1 8 (.int .i64 0):=⟨Tryz.underlying23,by kernel_rfl,rfl,by omega⟩
def Ef(z:Int):Prop:=-9223372036854775808<=z/\z<=9223372036854775807
def NdIn(x:Nd):Prop:=Ef x.k/\Ef x.p/\Ef x.n
def ns:List Nd->List Value
 | []=>[]
 | x::l=>.int .i64 x.k::.int .i64 x.p::.int .i64 x.n::ns l
theorem Fy(l:List Nd):(ns l).length=l.length*3:=by
 induction l with
 | nil=>rfl
 | cons x l ih=>simp only[ns,Ad,ih];omega
theorem H9(l m:List Nd):ns (l++m)=ns l++ns m:=by
 induction l with
 | nil=>rfl
 | cons x l ih=>simp[ns,ih]
theorem Je(l:List Nd):∀ u∈ns l,u.oneCell'=true:=by
 induction l with
 | nil=>simp[ns]
 | cons x l ih =>
  intro u hu;simp only[ns,Ba] at hu;rcases hu with rfl | rfl | rfl | hu
  ·rfl
  ·rfl
  ·rfl
  exact ih u hu
theorem bw(l:List Nd)(i:Nat)(h:i < l.length):(ns l)[i*3]? = some (.int .i64 l[i].k)/\(ns l)[i*3+1]? = some (.int .i64 l[i].p)/\(ns l)[i*3+2]? = some (.int .i64 l[i].n):=by
 induction l generalizing i with
 | nil=>simp at h
 | cons x l ih =>
  cases i with
  | zero=>simp[ns]
  | succ i =>
   have:=ih i (by simpa using h);have e:(i+1)*3=i*3+1+1+1:=by omega
   rw[e];simp only[ns,C9,List.getElem_cons_succ];exact this
theorem ik(l:List Nd)(k:Nat):ns (l.drop k)=(ns l).drop (k*3):=by
 induction k generalizing l with
 | zero=>simp
 | succ k ih =>
  cases l with
  | nil=>simp[ns]
  | cons x l=>rw[List.drop_succ_cons,ih,show (k+1)*3=k*3+3 by omega];simp[ns]
structure RdN(w:World)(B:Nat)(A:Option Addr)(n:Nat)(l:List Nd):Prop where
 len:l.length=n
 rd:RdV w B A (ns l)
 bd:∀ x∈l,NdIn x
section
variable {w w':World} {B B' n:Nat} {A:Option Addr} {l:List Nd}
theorem RdN.below(h:RdN w B A n l)(hb:Below B w w'):RdN w' B A n l:=⟨h.len,h.rd.below hb,h.bd⟩
theorem RdN.more(h:RdN w B A n l)(hB:B<=B'):RdN w B' A n l:=⟨h.len,h.rd.more hB,h.bd⟩
theorem RdN.back{ad:Addr}(h:RdN w B (some ad) n l)(k:Nat):RdN w B (some (ad.add (k*3))) (n - k) (l.drop k) :=
 ⟨by rw[C1,h.len],by rw[ik];exact h.rd.back (k*3),fun x hx=>h.bd x (List.mem_of_mem_drop hx)⟩
theorem RdN.on(h:RdN w w.heap.size A n l)(hb:Below w.heap.size w w'):RdN w' w'.heap.size A n l:=(h.below hb).more hb.size
theorem RdN.at_(h:RdN w B A n l){i:Nat}(hi:i < n):∃(ad:Addr) (x:Nd),A=some ad/\ad.block < B/\l[i]? = some x/\NdIn x/\
  w.cell? (ad.add (i*3))=some (.int .i64 x.k)/\w.cell? ⟨(ad.add (i*3)).block,(ad.add (i*3)).off+1,none⟩=some (.int .i64 x.p)/\w.cell? ⟨(ad.add (i*3)).block,(ad.add (i*3)).off+2,none⟩=some (.int .i64 x.n):=by
 have hl:i < l.length:=by rw[h.len];exact hi
 obtain⟨ad,e,hb,hc⟩:=h.rd (by rw[Fy];omega);obtain⟨h1,h2,h3⟩:=bw l i hl;have e1:∀ j,0 < j->(⟨(ad.add (i*3)).block,(ad.add (i*3)).off+j,none⟩:Addr)=ad.add (i*3+j):=fun j hj=>by
  rw[<- Ka];generalize ad.add (i*3)=p;unfold Addr.add;rw[if_neg (by omega)]
 refine⟨ad,l[i],e,hb,Am hl,h.bd _ (List.getElem_mem hl),hc _ _ h1,?_,?_⟩
 ·rw[e1 1 (by omega)];exact hc _ _ h2
 rw[e1 2 (by omega)];exact hc _ _ h3
end
theorem Va{w w1:World}{k p n:Int}{t:TypeId}(hb:Below (w.alloc (.cells #[.int .i64 k,.int .i64 p,.int .i64 n] t)).heap.size (w.alloc (.cells #[.int .i64 k,.int .i64 p,.int .i64 n] t)) w1):
  w1.cell? ⟨w.heap.size,0,none⟩=some (.int .i64 k)/\w1.cell? ⟨w.heap.size,1,none⟩=some (.int .i64 p)/\w1.cell? ⟨w.heap.size,2,none⟩=some (.int .i64 n):=by
 have h:∀ o,w1.cell? ⟨w.heap.size,o,none⟩=(w.alloc (.cells #[.int .i64 k,.int .i64 p,.int .i64 n] t)).cell? ⟨w.heap.size,o,none⟩:=fun o=>hb.cell (by simp);refine⟨?_,?_,?_⟩ <;> rw[h] <;> simp[Ab]
theorem Fa{a b:Int}(h:a=b):(Value.int .i64 a)=.int .i64 b:=by rw[h]
theorem fy(A:Option Addr)(n cap:Nat)(l:List Nd)(a:Nat)(w:World)(h:RdN w w.heap.size A n l)(hc:n<=cap)(hn:n<=1099511627776)(ha:a < n):
  Calls Tryz.prog 103 #[.slice A n cap,.int .i64 a] w (Ans (.int .i64 (size l a:Nat)) w):=by
 obtain⟨ad,x0,rfl,_⟩:=h.at_ ha;have aQ:¬ cap=a:=by omega
 rw[size_def l a (by rw[h.len];exact ha)];generalize hS:scan 1 (l.drop a)=S;have HS:=hid hS;clear hS;go_in;go_wp2_with fail;have hr:RdN w w.heap.size (some (ad.add (a*3))) (n - a) (l.drop a):=h.back a;generalize ad.add (a*3)=aR at hr |-;have hN:n - a<=1099511627776:=by omega
 generalize n - a=N at hr hN |-;generalize l.drop a=L at hr HS;clear h;generalize decide ((a:Int) < 0)=q9;generalize decide (n<=a)=aM;go_loopw [5,20] (fun m s wr=>∃(i k:Nat),i<=N/\s=.int .i64 i/\m=.int .i64 k/\1<=k/\k<=128*i+1/\S=(scan k (L.drop i)).map (·+i)/\Below w.heap.size w wr) (fun _ s _=>N - (intOf s).toNat)
 case atStart=>exact⟨0,1,by omega,rfl,rfl,by omega,by omega,by rw[<- HS.o];simp,Aj _ _⟩
 obtain⟨i,k,hi,rfl,rfl,aO,aN,hs,hb⟩:=hrel;have HK:=hid hs;clear hs;by_cases aJ:i < N
 ·obtain⟨aT,x,e,_,hx,aD,c0,c1,c2⟩:=(hr.on hb).at_ aJ;injection e with e;subst e;obtain⟨xk,xp,xn⟩:=x;have HX:=hid hx;have HI:=hid aD
  clear hx aD
  have aF:=drop_cons HX.o;have HD:=hid aF;clear aF;by_cases hf:fine ⟨xk,xp,xn⟩=true
  ·have HF:=hid hf;have hK:kz ⟨xk,xp,xn⟩=(kn ⟨xk,xp,xn⟩:Int):=Wt hf;have aK:=kn_le hf;clear hf;generalize aG:kn ⟨xk,xp,xn⟩=K at hK aK;have aC:=hid aG;have aH:=hid hK;clear aG hK;go_wp2_with fail;refine(Nx _ _ _ _).mono ?_;rw[HF.o];rintro e w1⟨rfl,aA⟩;obtain⟨d0,d1,d2⟩:=Va aA;have k1:=(bl1 _ _).trans (aA.mono (by simp));by_cases hz:k+K=1
   ·have aI:(k:Int)+((K:Int) - 1)=0:=by omega
    have HZ:=hid hz;clear hz;go_wp2_with fail;refine(J5 _ _ _ _).mono ?_;rw[aH.o];rintro e w2⟨rfl,aB⟩;have k2:=k1.trans (aB.mono k1.size);go_wp2;go_ret;refine Ans.mk ?_ (hb.trans (k2.mono hb.size));rw[HK.o,HD.o,scan_last HF.o (by rw[aC.o];exact HZ.o)];simp;omega
   have aI:¬ (k:Int)+((K:Int) - 1)=0:=by omega
   go_wp2_with fail;refine(J5 _ _ _ _).mono ?_;rw[aH.o];rintro e w2⟨rfl,aB⟩;have k2:=k1.trans (aB.mono k1.size);go_wp2;go_roundw
   case rel =>
    refine⟨i+1,k+K - 1,by omega,by go_num,Fa (by omega),by omega,by omega,?_,hb.trans (k2.mono hb.size)⟩;rw[HK.o,HD.o,scan_next HF.o (by rw[aC.o];exact hz),aC.o];cases scan (k+K - 1) (L.drop (i+1)) <;> simp;omega
   simp[intOf];omega
  have HF:=hid hf;have aE:fine ⟨xk,xp,xn⟩=false:=by simpa using hf
  have aL:=hid aE;clear hf aE;go_wp2_with fail;refine(Nx _ _ _ _).mono ?_;rw[aL.o];rintro e w1⟨rfl,aA⟩;have k1:=(bl1 _ _).trans (aA.mono (by simp));go_wp2;go_ret;refine Ans.mk ?_ (hb.trans (k1.mono hb.size));rw[HK.o,HD.o,scan_bad HF.o];simp
 have aP:N<=i:=by omega
 have HL:=hid hr.len;go_wp2;go_ret;refine Ans.mk ?_ hb;rw[HK.o,Cq (by have:=HL.o;omega)];simp[scan]
theorem Z3(A:Option Addr)(n cap:Nat)(a:Int)(w:World)(ha:a < 0\/(n:Int)<=a)(hn:n<=1099511627776):
  Calls Tryz.prog 103 #[.slice A n cap,.int .i64 a] w fun e w'=>e=.returned (.int .i64 0)/\w=w':=by
 by_cases h0:a < 0
 ·go_in;go_wp2;go_ret;exact⟨rfl,rfl⟩
 have h1:(n:Int)<=a:=by omega
 go_in;go_wp2;go_ret;exact⟨rfl,rfl⟩
theorem Z4(A:Option Addr)(n cap:Nat)(l:List Nd)(a:Int)(w:World)(h:RdN w w.heap.size A n l)(hc:n<=cap)(hn:n<=1099511627776):
  Calls Tryz.prog 103 #[.slice A n cap,.int .i64 a] w (Ans (.int .i64 (size l a:Nat)) w):=by
 by_cases ha:0<=a/\a < n
 ·obtain⟨a',rfl⟩:=Ax ha.1;exact fy A n cap l a' w h hc hn (by omega)
 refine(Z3 A n cap a w (by omega) hn).mono ?_;rintro e w'⟨rfl,rfl⟩;rw[size_none l a (by have:=h.len;omega)];exact⟨rfl,Aj _ _⟩
theorem lr{x:Nd}(h:x.k=3):kz x=x.n:=if_pos h
theorem lu{x:Nd}(h:x.k=4):kz x=1:=by unfold kz;rw[if_neg (by omega),if_pos h]
theorem iq{x:Nd}(h:¬ x.k=3)(h':¬ x.k=4):kz x=0:=by unfold kz;rw[if_neg h,if_neg h']
theorem ae(A:Option Addr)(n cap:Nat)(l:List Nd)(a:Nat)(w:World)(h:RdN w w.heap.size A n l)(hc:n<=cap)(hn:n<=1099511627776)(ha:a < n):
  Calls Tryz.prog 79 #[.slice A n cap,.int .i64 a] w (Ans (.int .i64 (size l a:Nat)) w):=by
 obtain⟨ad,x0,rfl,_⟩:=h.at_ ha;rw[size_def l a (by rw[h.len];exact ha)];generalize hS:scan 1 (l.drop a)=S;have HS:=hid hS;clear hS;go_in;go_wp2_with fail;generalize decide ((a:Int) < 0)=q9;generalize decide (n<=a)=aM;go_loopw [5,6] (fun m s wr=>∃(i k:Nat),a<=i/\i<=n/\s=.int .i64 i/\m=.int .i64 k/\1<=k/\k<=128*(i - a)+1/\S=(scan k (l.drop i)).map (·+(i - a))/\Below w.heap.size w wr) (fun _ s _=>n - (intOf s).toNat)
 case atStart=>exact⟨a,1,by omega,by omega,rfl,rfl,by omega,by omega,by rw[HS.o];simp,Aj _ _⟩
 obtain⟨i,k,aQ,hi,rfl,rfl,aO,aN,hs,hb⟩:=hrel;have HK:=hid hs;clear hs;by_cases aJ:i < n
 ·obtain⟨aU,x,e,_,hx,aF,c0,c1,c2⟩:=(h.on hb).at_ aJ;injection e with e;subst e;obtain⟨xk,xp,xn⟩:=x;have aH:=drop_cons hx;have HD:=hid aH;have HI:=hid aF
  clear aH hx aF
  by_cases hf:fine ⟨xk,xp,xn⟩=true
  ·have HF:=hid hf;have hK:kz ⟨xk,xp,xn⟩=(kn ⟨xk,xp,xn⟩:Int):=Wt hf;have aK:=kn_le hf;clear hf;generalize aI:kn ⟨xk,xp,xn⟩=K at hK aK;have aA:=hid aI;have aB:=hid hK;clear aI hK;go_wp2_with fail;refine(Qj _ _ _ _).mono ?_;rw[HF.o];rintro e w1⟨rfl,aC⟩;have aE:(ad.add (i*3)).block < wr.heap.size:=by rw[Eh];assumption
   have d0:=(aC.cell aE).trans c0;have d2:=(aC.cell (p:=⟨(ad.add (i*3)).block,(ad.add (i*3)).off+2,none⟩) aE).trans c2;clear c0 c1 c2 aE;have k1:=hb.trans (aC.mono hb.size);by_cases h3:xk=3
   ·subst h3;have e:=aB.o;rw[lr rfl] at e;dsimp only at e;subst e;clear aB;by_cases hz:k+K=1
    ·have aD:((k:Int) - 1+K == 0)=true:=Ck.2 (by omega);have HZ:=hid hz;clear hz;go_wp2;go_ret;refine Ans.mk ?_ k1;rw[HK.o,HD.o,scan_last HF.o (by rw[aA.o];exact HZ.o)];refine Fa (b:=(i:Int) - a+1) ?_;simp only[Option.map_some,Bq];omega
    have aD:((k:Int) - 1+K == 0)=false:=Ak.2 (by omega);have HZ:=hid hz;clear hz;go_wp2;go_roundw
    case rel =>
     have hz:=HZ.o;refine⟨i+1,k+K - 1,by omega,by omega,by go_num,Fa (by omega),by omega,by omega,?_,k1⟩;rw[HK.o,HD.o,scan_next HF.o (by rw[aA.o];exact hz),aA.o,show i+1 - a=1+(i - a) by omega];generalize i - a=q;cases scan (k+K - 1) (l.drop (i+1)) <;> simp[Nat.add_assoc]
    simp[intOf];omega
   by_cases h4:xk=4
   ·subst h4;have e:=aB.o;rw[lu rfl] at e;obtain rfl:K=1:=by omega
    clear aB h3 e;by_cases hz:k+1=1
    ·exact absurd hz (by omega)
    have aD:((k:Int) == 0)=false:=Ak.2 (by omega);have HZ:=hid hz;clear hz;go_wp2;go_roundw
    case rel =>
     have hz:=HZ.o;refine⟨i+1,k+1 - 1,by omega,by omega,by go_num,Fa (by omega),by omega,by omega,?_,k1⟩;rw[HK.o,HD.o,scan_next HF.o (by rw[aA.o];exact hz),aA.o,show i+1 - a=1+(i - a) by omega];generalize i - a=q;cases scan (k+1 - 1) (l.drop (i+1)) <;> simp[Nat.add_assoc]
    simp[intOf];omega
   have e:=aB.o;rw[iq h3 h4] at e;obtain rfl:K=0:=by omega
   have aT:(xk == 3)=false:=Ak.2 h3;have aR:(xk == 4)=false:=Ak.2 h4;clear aB e h3 h4;by_cases hz:k+0=1
   ·have aD:((k:Int) - 1 == 0)=true:=Ck.2 (by omega);have HZ:=hid hz;clear hz;go_wp2;go_ret;refine Ans.mk ?_ k1;rw[HK.o,HD.o,scan_last HF.o (by rw[aA.o];exact HZ.o)];refine Fa (b:=(i:Int) - a+1) ?_;simp only[Option.map_some,Bq];omega
   have aD:((k:Int) - 1 == 0)=false:=Ak.2 (by omega);have HZ:=hid hz;clear hz;go_wp2;go_roundw
   case rel =>
    have hz:=HZ.o;refine⟨i+1,k+0 - 1,by omega,by omega,by go_num,Fa (by omega),by omega,by omega,?_,k1⟩;rw[HK.o,HD.o,scan_next HF.o (by rw[aA.o];exact hz),aA.o,show i+1 - a=1+(i - a) by omega];generalize i - a=q;cases scan (k+0 - 1) (l.drop (i+1)) <;> simp[Nat.add_assoc]
   simp[intOf];omega
  have HF:=hid hf;have aG:fine ⟨xk,xp,xn⟩=false:=by simpa using hf
  have aL:=hid aG;clear hf aG;go_wp2_with fail;refine(Qj _ _ _ _).mono ?_;rw[aL.o];rintro e w1⟨rfl,aC⟩;go_wp2;go_ret;refine Ans.mk ?_ (hb.trans (aC.mono hb.size));rw[HK.o,HD.o,scan_bad HF.o];simp
 have aP:n<=i:=by omega
 have HL:=hid h.len;go_wp2;go_ret;refine Ans.mk ?_ hb;rw[HK.o,Cq (by have:=HL.o;omega)];simp[scan]
theorem X8(A:Option Addr)(n cap:Nat)(a:Int)(w:World)(ha:a < 0\/(n:Int)<=a)(hn:n<=1099511627776):
  Calls Tryz.prog 79 #[.slice A n cap,.int .i64 a] w fun e w'=>e=.returned (.int .i64 0)/\w=w':=by
 by_cases h0:a < 0
 ·go_in;go_wp2;go_ret;exact⟨rfl,rfl⟩
 have h1:(n:Int)<=a:=by omega
 go_in;go_wp2;go_ret;exact⟨rfl,rfl⟩
theorem Hx(A:Option Addr)(n cap:Nat)(l:List Nd)(a:Int)(w:World)(h:RdN w w.heap.size A n l)(hc:n<=cap)(hn:n<=1099511627776):
  Calls Tryz.prog 79 #[.slice A n cap,.int .i64 a] w (Ans (.int .i64 (size l a:Nat)) w):=by
 by_cases ha:0<=a/\a < n
 ·obtain⟨a',rfl⟩:=Ax ha.1;exact ae A n cap l a' w h hc hn (by omega)
 refine(X8 A n cap a w (by omega) hn).mono ?_;rintro e w'⟨rfl,rfl⟩;rw[size_none l a (by have:=h.len;omega)];exact⟨rfl,Aj _ _⟩
end Go.Proofs.YtfmndmhjjbeokaaGreatDoor
namespace Go.Proofs.YtfmndmhjjbeokaaGreatDoor
namespace Tab
def pos(l:List Nd)(p:Nat):Nat->Nat
 | 0=>p
 | j+1=>pos l p j+size l (pos l p j:Nat)
def F.dr:Nat->F->F
 | 0,f=>f
 | _+1,.nil=>.nil
 | j+1,.cons _ _ r=>F.dr j r
theorem dr_succ{f:F}{j:Nat}{y:Nd}{k r:F}(h:F.dr j f=.cons y k r):F.dr (j+1) f=r:=by
 induction j generalizing f with
 | zero=>subst h;rfl
 | succ j ih =>
  cases f with
  | nil=>simp[F.dr] at h
  | cons x k' r'=>exact ih (f:=r') h
theorem dr_ok{f:F}(h:f.ok)(j:Nat):(F.dr j f).ok:=by
 induction j generalizing f with
 | zero=>exact h
 | succ j ih =>
  cases f with
  | nil=>trivial
  | cons x k r=>exact ih h.2.2.2
theorem dr_cnt(f:F)(j:Nat):(F.dr j f).cnt=f.cnt - j:=by
 induction j generalizing f with
 | zero=>rfl
 | succ j ih =>
  cases f with
  | nil=>simp[F.dr,F.cnt]
  | cons x k r=>simp only[F.dr,F.cnt];rw[ih];omega
theorem dr_cons{f:F}{j:Nat}(h:j < f.cnt):∃ y k r,F.dr j f=.cons y k r:=by
 cases hd:F.dr j f with
 | nil =>
  have:=dr_cnt f j;rw[hd] at this;simp only[F.cnt] at this;omega
 | cons y k r=>exact⟨y,k,r,rfl⟩
theorem dr_all(f:F):F.dr f.cnt f=.nil:=F.cnt_zero (by rw[dr_cnt];omega)
theorem pos_dr{l t:List Nd}{p:Nat}{f:F}(h:f.ok)(hl:l.drop p=f.flat++t)(hp:p<=l.length)(j:Nat)(hj:j<=f.cnt):
  l.drop (pos l p j)=(F.dr j f).flat++t/\pos l p j+(F.dr j f).sz=p+f.sz/\p<=pos l p j/\pos l p j<=l.length:=by
 induction j with
 | zero=>exact⟨hl,rfl,Ag _,hp⟩
 | succ j ih =>
  obtain⟨h1,h2,h3,h4⟩:=ih (by omega);obtain⟨y,k,r,e⟩:=dr_cons (f:=f) (j:=j) (by omega);have aB:=dr_ok h j;rw[e] at h1 h2 aB;have hs:size l (pos l p j:Nat)=1+k.sz:=size_at aB h1;have e2:=dr_succ e;have aA:=congrArg List.length h1;rw[C1,Aa,F.flat_length] at aA;simp only[F.sz] at h2 aA;simp only[pos];rw[hs,e2];refine⟨?_,by omega,by omega,by omega⟩;rw[<- List.drop_drop,h1];simp only[F.flat,Bo];rw[show 1+k.sz=k.sz+1 by omega,List.drop_succ_cons,Ar,List.drop_left' (F.flat_length k)]
def kids(l:List Nd)(a:Int):List Int :=
 if size l a=0 then [] else (List.range (((l[a.toNat]?).map kn).getD 0)).map fun j=>(pos l (a.toNat+1) j:Int)
def Path:=List (Nat×Nat)
def times:List (Nat×Nat)->Nat
 | []=>1
 | (_,t)::_=>t
theorem times_cons(a t:Nat)(o:List (Nat×Nat)):times ((a,t)::o)=t:=rfl
def hold(a b:Nat):Nat:=if 4096 < a*b then 4097 else a*b
def pops:List (Nat×Nat)->List (Nat×Nat)
 | []=>[]
 | (a,t)::o=>if 1 < a then (a - 1,t)::o else pops o
def behind(st:List (Nat×Nat))(x:Nd):List (Nat×Nat) :=
 if x.k=3 then (x.n.toNat,times st)::st else if x.k=4 then (1,hold x.n.toNat (times st))::st else pops st
def Outer:List (Nat×Nat)->List F->Prop
 | [],[]=>True
 | (a,t)::o,f::fs=>a=f.cnt+1/\1<=t/\t<=4097/\f.ok/\Outer o fs
 | _,_=>False
def InvP(st:List (Nat×Nat))(cur:F)(fs:List F):Prop :=
 cur.ok/\match st with
 | []=>fs=[]/\cur.cnt<=1
 | (a,t)::o=>a=cur.cnt/\1<=a/\1<=t/\t<=4097/\Outer o fs
def flats:List F->List Nd
 | []=>[]
 | f::fs=>f.flat++flats fs
def remO:List (Nat×Nat)->List F->Nat
 | (_,t)::o,f::fs=>t*f.len+remO o fs
 | _,_=>0
def rem(st:List (Nat×Nat))(cur:F)(fs:List F):Nat:=times st*cur.len+remO st.tail fs
def deepO:List (Nat×Nat)->List F->Nat
 | (_,_)::o,f::fs=>max (if f.cnt=0 then 0 else o.length+1+f.dep) (deepO o fs)
 | _,_=>0
def deepR(st:List (Nat×Nat))(cur:F)(fs:List F):Nat:=max (if cur.cnt=0 then 0 else st.length+cur.dep) (deepO st.tail fs)
theorem hold_le(a b:Nat):hold a b<=4097:=by unfold hold;split <;> omega
theorem hold_pos{a b:Nat}(ha:1<=a)(hb:1<=b):1<=hold a b:=by
 have:0 < a*b:=Nat.mul_pos (by omega) (by omega);unfold hold;split <;> omega
theorem pops_spec(o:List (Nat×Nat))(fs:List F)(h:Outer o fs):
  ∃(aA:F) (aB:List F),InvP (pops o) aA aB/\flats fs=aA.flat++flats aB/\rem (pops o) aA aB=remO o fs/\deepR (pops o) aA aB=deepO o fs/\(pops o=[]->aA=.nil):=by
 induction o generalizing fs with
 | nil =>
  cases fs with
  | nil=>exact⟨.nil,[],⟨trivial,rfl,by simp[F.cnt]⟩,rfl,rfl,rfl,fun _=>rfl⟩
  | cons f fs=>exact h.elim
 | cons e o ih =>
  obtain⟨a,t⟩:=e;cases fs with
  | nil=>exact h.elim
  | cons f fs =>
   obtain⟨h1,h2,h3,h4,h5⟩:=h;simp only[pops];by_cases ha:1 < a
   ·rw[if_pos ha];refine⟨f,fs,⟨h4,by omega,by omega,h2,h3,h5⟩,rfl,rfl,?_,fun h=>by cases h⟩;simp only[deepR,deepO,List.tail_cons,Ad]
   rw[if_neg ha];obtain rfl:f=.nil:=F.cnt_zero (by omega);obtain⟨aA,aB,i1,i2,i3,i4,i5⟩:=ih fs h5;refine⟨aA,aB,i1,by simpa [flats,F.flat] using i2,by simp[remO,F.len,i3],by simp[deepO,F.cnt,i4],i5⟩
theorem InvP.times{st:List (Nat×Nat)}{aA:F}{fs:List F}(h:InvP st aA fs):1<=times st/\times st<=4097:=by
 cases st with
 | nil=>exact⟨Ag _,by simp[Tab.times]⟩
 | cons e o=>exact⟨h.2.2.2.1,h.2.2.2.2.1⟩
theorem InvP.pos{st:List (Nat×Nat)}{aA:F}{fs:List F}(h:InvP st aA fs):st=[]/\fs=[]\/0 < aA.cnt:=by
 cases st with
 | nil=>exact .inl ⟨rfl,h.2.1⟩
 | cons e o=>exact .inr (by have:=h.2.1;have:=h.2.2.1;omega)
theorem hold_min(s a b c:Nat):min 4097 (s+hold a b+c)=min 4097 (s+a*b+c):=by
 unfold hold;split <;> omega
theorem hold_mul(s a b m c:Nat)(hm:1<=m):min 4097 (s+hold a b*m+c)=min 4097 (s+a*b*m+c):=by
 unfold hold;split
 ·have h1:4097*1<=4097*m:=Do _ hm;have h2:4097*m<=a*b*m:=Cd _ (by omega);omega
 rfl
theorem down{st:List (Nat×Nat)}{x:Nd}{k r:F}{fs:List F}(h:InvP st (.cons x k r) fs):
  ∃ aA,Outer st aA/\r.flat++flats fs=flats aA/\remO st aA=times st*r.len+remO st.tail fs/\deepO st aA=max (if r.cnt=0 then 0 else st.length+r.dep) (deepO st.tail fs):=by
 obtain⟨⟨_,_,_,aB⟩,h2⟩:=h;cases st with
 | nil =>
  obtain⟨rfl,hc⟩:=h2;obtain rfl:r=.nil:=F.cnt_zero (by simp only[F.cnt] at hc;omega);exact⟨[],trivial,rfl,by simp[remO,F.len],by simp[deepO,F.cnt]⟩
 | cons e o =>
  obtain⟨a,t⟩:=e;obtain⟨h3,h4,h5,h6,h7⟩:=h2;exact⟨r::fs,⟨h3,h5,h6,aB,h7⟩,rfl,rfl,by simp[deepO]⟩
theorem deepR_cons(st:List (Nat×Nat))(y:Nd)(k r:F)(fs:List F):deepR st (.cons y k r) fs=max (st.length+max (k.dep+1) r.dep) (deepO st.tail fs):=by
 unfold deepR;rw[if_neg (show ¬ (F.cons y k r).cnt=0 from Nat.succ_ne_zero _)];rfl
theorem deepR_in(a t:Nat)(st:List (Nat×Nat))(k:F)(fs:List F)(h:¬ k.cnt=0):deepR ((a,t)::st) k fs=max (st.length+1+k.dep) (deepO st fs):=by
 unfold deepR;rw[if_neg h];rfl
theorem step{st:List (Nat×Nat)}{aE:F}{fs:List F}(h:InvP st aE fs){x:Nd}{tl:List Nd}(hr:aE.flat++flats fs=x::tl):
  fine x=true/\∃(aA:F) (aC:List F),InvP (behind st x) aA aC/\tl=aA.flat++flats aC/\
   (∀ s,min 4097 (s+(if kn x=0 then hold x.n.toNat (times st) else 0)+rem (behind st x) aA aC)=min 4097 (s+rem st aE fs))/\
   max (st.length+1) (deepR (behind st x) aA aC)=max (st.length+1) (deepR st aE fs):=by
 have hc:0 < aE.cnt:=by
  rcases h.pos with ⟨_,rfl⟩ | h0
  ·rcases Dm aE.cnt with h0 | h0
   ·rw[F.cnt_zero h0] at hr;simp[F.flat,flats] at hr
   exact h0
  exact h0
 cases aE with
 | nil=>simp[F.cnt] at hc
 | cons y k r =>
  simp only[F.flat,Bo,List.cons.injEq,Ar] at hr;obtain⟨rfl,rfl⟩:=hr;have aI:=h.1;obtain⟨hf,hk,aD,aH⟩:=aI;have aK:=fine_one hf;refine⟨hf,?_⟩;obtain⟨aF,aG⟩:=h.times;obtain⟨aC,d1,d2,d3,d4⟩:=down h;by_cases h3:y.k=3
  ·have ek:kn y=y.n.toNat:=if_pos h3;have eb:behind st y=(y.n.toNat,times st)::st:=if_pos h3;have aL:0 < k.cnt:=by omega
   have et:F.tick y k.len=k.len:=if_pos h3;rw[eb];refine⟨k,aC,⟨aD,by omega,by omega,aF,aG,d1⟩,by rw[d2],fun s=>?_,?_⟩
   ·rw[if_neg (by omega)];simp only[rem,times_cons,List.tail_cons,d3,F.len,et,Nat.mul_add];congr 1;omega
   rw[deepR_cons,deepR_in _ _ _ _ _ (by omega),d4];split
   ·rename_i h0;rw[F.cnt_zero h0];simp only[F.dep];omega
   omega
  by_cases h4:y.k=4
  ·have ek:kn y=1:=by unfold kn;rw[if_neg h3,if_pos h4]
   have eb:behind st y=(1,hold y.n.toNat (times st))::st:=by unfold behind;rw[if_neg h3,if_pos h4]
   have et:F.tick y k.len=k.len*y.n.toNat:=by unfold F.tick;rw[if_neg h3,if_pos h4]
   have hl:1<=k.len:=F.len_pos aD (by omega);rw[eb];refine⟨k,aC,⟨aD,by omega,by omega,hold_pos (by omega) aF,hold_le _ _,d1⟩,by rw[d2],fun s=>?_,?_⟩
   ·rw[if_neg (by omega)];simp only[rem,times_cons,List.tail_cons,d3,F.len,et,Nat.add_zero];rw[<- Nat.add_assoc,hold_mul _ _ _ _ _ hl,Nat.mul_add];have:times st*(k.len*y.n.toNat)=y.n.toNat*times st*k.len:=by
     rw[<- Nat.mul_assoc,Nat.mul_comm (times st) k.len,Nat.mul_assoc,Nat.mul_comm k.len,Nat.mul_comm (times st)]
    rw[this];congr 1;omega
   rw[deepR_cons,deepR_in _ _ _ _ _ (by omega),d4];split
   ·rename_i h0;rw[F.cnt_zero h0];simp only[F.dep];omega
   omega
  have ek:kn y=0:=by unfold kn;rw[if_neg h3,if_neg h4]
  have eb:behind st y=pops st:=by unfold behind;rw[if_neg h3,if_neg h4]
  have et:F.tick y k.len=y.n.toNat:=by unfold F.tick;rw[if_neg h3,if_neg h4]
  obtain rfl:k=.nil:=F.cnt_zero (by omega);obtain⟨aA,aB,p1,p2,p3,p4⟩:∃(aA:F) (aB:List F),InvP (pops st) aA aB/\r.flat++flats fs=aA.flat++flats aB/\rem (pops st) aA aB=remO st aC/\deepR (pops st) aA aB=deepO st aC:=by
   obtain⟨c,f,q1,q2,q3,q4,_⟩:=pops_spec st aC d1;exact⟨c,f,q1,by rw[d2,q2],q3,q4⟩
  rw[eb];refine⟨aA,aB,p1,by simpa [F.flat] using p2,fun s=>?_,?_⟩
  ·rw[if_pos ek,p3,d3,hold_min];have aJ:F.tick y 0=y.n.toNat:=et;simp only[rem,F.len,aJ,Nat.mul_add];rw[Nat.mul_comm (times st) y.n.toNat];congr 1;omega
  rw[p4,d4,deepR_cons];simp only[F.dep];split
  ·rename_i h0;rw[F.cnt_zero h0];simp only[F.dep];omega
  omega
theorem deep_ge{st:List (Nat×Nat)}{aA:F}{fs:List F}(h:InvP st aA fs){x:Nd}{tl:List Nd}(hr:aA.flat++flats fs=x::tl):st.length+1<=deepR st aA fs:=by
 cases aA with
 | nil =>
  rcases h.pos with ⟨_,rfl⟩ | h0
  ·simp[F.flat,flats] at hr
  simp[F.cnt] at h0
 | cons y k r=>rw[deepR_cons];omega
theorem InvP.done{st:List (Nat×Nat)}{aA:F}{fs:List F}(h:InvP st aA fs)(hr:aA.flat++flats fs=[]):rem st aA fs=0/\deepR st aA fs=0:=by
 rcases h.pos with ⟨rfl,rfl⟩ | h0
 ·cases aA with
  | nil=>exact⟨rfl,rfl⟩
  | cons x k r=>simp[F.flat] at hr
 cases aA with
 | nil=>simp[F.cnt] at h0
 | cons x k r=>simp[F.flat] at hr
theorem InvP.start{f:F}(h:f.ok)(hc:f.cnt=1):InvP [] f []/\f.flat++flats []=f.flat/\rem [] f []=f.len/\deepR [] f []=f.dep :=
 ⟨⟨h,rfl,by omega⟩,by simp[flats],by simp[rem,show Tab.times []=1 from rfl,remO],by simp[deepR,deepO,hc]⟩
