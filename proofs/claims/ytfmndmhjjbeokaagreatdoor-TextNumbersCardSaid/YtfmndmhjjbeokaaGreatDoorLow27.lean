import Derived.Test.YtfmndmhjjbeokaaGreatDoorLow26
import Derived.Deep.CutBlock
set_option maxHeartbeats 4000000
set_option maxRecDepth 100000
set_option linter.unusedSimpArgs false
set_option linter.unusedVariables false
namespace Go.Proofs.YtfmndmhjjbeokaaGreatDoor
open Go.RowKit Tab
theorem elJ:Elt 207 2 1 8 (.int .i64 0):=⟨Tryz.underlying207,by kernel_rfl,rfl,by omega⟩
theorem Xy(m:Nat)(hm:m<=1048576)(W:World):(Instr.makeSlice 207 (.int .i64 (m:Int)) (.int .i64 (m:Int))).run Tryz.prog W=.ok (.slice (some ⟨W.heap.size,0,none⟩) m m) (W.alloc (.cells (madeCells #[.int .i64 0] m) 2)):=by
 obtain⟨i,hi,hz,hs,aA⟩:=info_parts elJ.hi;have hr:=run_make (P:=Tryz.prog) W 207 2 i _ elJ.ht hi hz .i64 .i64 m m (by omega) (by omega) (by rw[aA];omega) (by omega);rw[hs] at hr;simp only[Bx,Cj] at hr;exact hr
theorem J8(s n S N:Int)(w:World)(hs:0<=s)(hn:0<=n)(h:s+n<=4611686018427387904)(hS:S=s)(hN:N=n):
  Calls Tryz.prog 165 #[.int .i64 S,.int .i64 N] w fun e w'=>e=.returned (.int .i64 (s+n))/\w'=w:=by
 subst hS;subst hN;have h1:¬ 9223372036854775807 - N < S:=by omega
 go_in;go_wp2;go_ret;exact⟨rfl,rfl⟩
def ccF(q:Int)(L:List Rn):Nat->Nat
 | 0=>0
 | k+1=>wc q L (ccF q L k)
theorem mh(q:Int)(L:List Rn):∀ k,ccF q L k<=k*ticks L:=by
 intro k;induction k with
 | zero=>simp[ccF]
 | succ k ih =>
  have:=Wc q L (ccF q L k);simp only[ccF,Db];omega
def Qbk(n:Nat)(f:Nat->Nat)(w:World)(e:Ending)(w':World):Prop :=
 ∃ g,e=.returned (.slice (some ⟨g,0,none⟩) n n)/\Vec w' g n (fun j=>.int .i64 (f j:Nat))/\Below w.heap.size w w'/\w.heap.size<=g
theorem Po(A:Option Addr)(n cap:Nat)(L:List Rn)(q:Int)(w:World)(h:RdR w w.heap.size A n L)(hc:n<=cap)(hn:n<=1048576)(ht:ticks L<=1099511627776):
  Calls Tryz.prog 167 #[.slice A n cap,.int .i64 q] w (Qbk n (wt q L) w):=by
 have aY:=Xy n hn;obtain⟨B,hB⟩:∃ B,B=w.heap.size:=⟨_,rfl⟩;have aL:Below B w (w.alloc (.cells (madeCells #[.int .i64 0] n) 2)):=by rw[hB];exact bl1 w _
 have aF:Vec (w.alloc (.cells (madeCells #[.int .i64 0] n) 2)) w.heap.size n fun _=>.int .i64 0:=Vec.lit w _ _ n _ fun j hj=>Sv _ n j hj;have aG:B<=w.heap.size:=by omega
 rw[<- hB] at h;have hl:=h.len;have HL:=hid hl;have HB:=hid hB;have bA:=hid (mh q L);clear hB hl;go_in;go_wp2_with fail;generalize w.alloc (.cells (madeCells #[.int .i64 0] n) 2)=W0 at aL aF |-;generalize w.heap.size=g at aF aG |-;clear aY;go_loopw [6,7,11] (fun a _ s wr=>∃(k:Nat) (f:Nat->Value),k<=2/\s=.int .i64 k/\a=.int .i64 (ccF q L k:Nat)/\Vec wr g n f/\(∀ m,k=m+1->∀ i,i < n->f i=.int .i64 (wc q (L.drop (i+1)) (ccF q L m):Nat))/\Below B w wr) (fun _ _ s _=>2 - (intOf s).toNat)
 case atStart=>exact⟨0,_,by omega,rfl,rfl,aF,fun m e=>by omega,aL⟩
 obtain⟨k,f,hk,rfl,rfl,hV,hf,hb⟩:=hrel;have HF:=hid hf;clear hf;by_cases bD:k < 2
 ·have aZ:=bA.o k;have aD:ccF q L k<=2*ticks L:=by
   have:k*ticks L<=2*ticks L:=Cd _ (by omega);omega
  have HS:Hd (ccF q L (k+1)=wc q L (ccF q L k)):=hid rfl;have aT:Hd (wc q (L.drop n) (ccF q L k)=ccF q L k):=hid (by rw[Cq (by rw[HL.o];omega)];rfl);clear aZ;generalize hC:ccF q L k=C at aD HS aT |-;have HC:=hid hC;clear hC;obtain⟨W1,aM⟩:∃ W1,W1=wr:=⟨_,rfl⟩;rw[<- aM] at hV hb |-;clear aM;go_wp2_with fail;generalize aJ:(n:Int) - 1=x0;have bB:=hid aJ;clear aJ;generalize decide ((k:Int) < 2)=bF;go_loopw [6,7] (fun a s wr=>∃(j v:Nat) (x:Int) (f:Nat->Value),j<=n/\s=.int .i64 x/\x=(j:Int) - 1/\a=.int .i64 (v:Int)/\wc q (L.drop j) C=v/\Vec wr g n f/\(∀ i,j<=i->i < n->f i=.int .i64 (wc q (L.drop (i+1)) C:Nat))/\Below B w wr) (fun _ s _=>(intOf s+1).toNat)
  case atStart=>exact⟨n,C,x0,f,Ag _,rfl,bB.o.symm,rfl,aT.o,hV,fun i h1 h2=>by omega,hb⟩
  clear hV hb;obtain⟨j,v,x,f2,hj,rfl,hx,rfl,hv,hV,hf,hb⟩:=hrel;have aR:=hid hf;have HV:=hid hv;have aV:v<=3*ticks L:=by
   have h1:=Wc q (L.drop j) C;have h2:=Kd L j;omega
  clear hf hv;by_cases h0:j=0
  ·have aC:x=-1:=by omega
   clear hx;subst aC;subst h0;have aB:ccF q L (k+1)=v:=by rw[HS.o];exact HV.o
   have aH:=hid aB
   clear aB
   go_wp2;go_roundw
   case rel=>exact⟨k+1,f2,by omega,by go_num,by rw[aH.o],hV,fun m e i hi=>by
    have:m=k:=by omega
    subst this;have e3:=aR.o i (Cr _) hi;rw[HC.o];exact e3,hb⟩
   simp[intOf];omega
  obtain⟨j,rfl⟩:∃ i,j=i+1:=⟨j - 1,by omega⟩;have aC:x=(j:Int):=by omega
  clear hx h0;subst aC;have aK:j < n:=by omega
  have aE:=hb.setCell (p:=⟨g,j,none⟩) aG (.int .i64 (v:Int));obtain⟨ad,r,rfl,bE,hr,c0,c1⟩:=(h.below aE).at_ aK;have d0:=hV.cell j aK;have d1:=hV.thaw j;have aN:=hV.set j (.int .i64 (v:Int));have aA:=my (q:=q) hr C;rw[HV.o] at aA;have bC:r.n<=ticks L:=mem_ticks (An hr);have aU:=hid aE;have aO:=hid aN;have aQ:Hd (∀ i,j<=i->i < n->put1 f2 j (.int .i64 (v:Int)) i=.int .i64 (wc q (L.drop (i+1)) C:Nat)):=hid fun i h1 h2=>by
   by_cases e:i=j
   ·subst e;rw[put1_same,HV.o]
   rw[put1_other e];exact aR.o i (by omega) h2
  clear aE aN hr hb;by_cases hp:r.p=q
  ·rw[if_pos hp] at aA;have aX:(r.p == q)=true:=Ck.2 hp;have aI:=hid aA;clear hp aA;go_wp2_with fail;refine(J8 (v:Int) (r.n:Int) _ _ _ (by omega) (by omega) (by omega) rfl rfl).mono ?_;rintro e w1⟨rfl,rfl⟩;go_wp2;go_roundw
   case rel=>exact⟨j,0,_,_,by omega,rfl,by go_num,rfl,aI.o,aO.o,aQ.o,aU.o⟩
   simp[intOf]
  rw[if_neg hp] at aA;have aX:(r.p == q)=false:=Ak.2 hp;have aI:=hid aA;clear hp aA;go_wp2_with fail;refine(J8 (v:Int) (r.n:Int) _ _ _ (by omega) (by omega) (by omega) rfl rfl).mono ?_;rintro e w1⟨rfl,rfl⟩;go_wp2;go_roundw
  case rel=>exact⟨j,v+r.n,_,_,by omega,rfl,by go_num,by go_num,aI.o,aO.o,aQ.o,aU.o⟩
  simp[intOf]
 obtain rfl:k=2:=by omega
 have aP:=HF.o 1 rfl;have e1:∀ i,i < n->f i=.int .i64 (wt q L i:Nat):=aP;have HV:=hid (hV.congr e1);clear aP e1 hV;go_wp2;go_ret;exact⟨g,rfl,HV.o,by rw[<- HB.o];exact hb,by rw[<- HB.o];exact aG⟩
theorem Wd(L:List Rn):∀ r∈tidy L,1<=r.n:=(tidy_apart L).pos
theorem Y0{L:List Rn}{p:Int}(h:tkOf p L=0):Oj (Dx L) p=-1:=by
 unfold Oj D9;rw[if_pos (Hp.2 h),if_pos (by omega)]
theorem Vf{L:List Rn}{p q:Int}(h:tkOf p L=0):D9 (Dx L) p q=0:=by
 unfold D9;rw[if_pos (Hp.2 h)]
theorem S4{L:List Rn}{p q:Int}(h:tkOf p L≠0)(h2:tkOf q L=0):D9 (Dx L) p q=-1:=by
 unfold D9;rw[if_neg (by rw[Hp];exact h),if_pos (Hp.2 h2)]
theorem Kq{L:List Rn}{p:Int}(h:tkOf p L≠0):D9 (Dx L) p p=(mo p (fun i _=>wt p (tidy L) i) (tidy L) (tidy L).length:Nat)+1:=by
 have hp:E6 p (Dx (tidy L))=true:=Vl.2 (by rw[tkOf_tidy];omega);unfold D9;rw[if_neg (by rw[Hp];exact h),if_neg (by rw[Hp];exact h),<- Mk L,md (Wd L) hp];rfl
theorem Ww{L:List Rn}{p:Int}(h:tkOf p L≠0):Oj (Dx L) p=(mo p (fun i _=>wt p (tidy L) i) (tidy L) (tidy L).length:Nat):=by
 unfold Oj;rw[Kq h,if_neg (by omega)];omega
theorem ct{L:List Rn}{p q:Int}(h:tkOf p L≠0)(h2:tkOf q L≠0)(aA:p≠q):D9 (Dx L) p q=(mo p (fun i n=>wt q (tidy L) i+n) (tidy L) (tidy L).length:Nat):=by
 have hq:E6 q (Dx (tidy L))=true:=Vl.2 (by rw[tkOf_tidy];omega);unfold D9;rw[if_neg (by rw[Hp];exact h),if_neg (by rw[Hp];exact h2),<- Mk L,ip (Wd L) hq aA]
theorem Zj(A:Option Addr)(n cap:Nat)(L:List Rn)(p:Int)(w:World)(h:RdR w w.heap.size A n L)(hc:n<=cap)(hn:n<=1048576)(ht:ticks L<=1099511627776):
  Calls Tryz.prog 166 #[.slice A n cap,.int .i64 p] w (Ans (.int .i64 (Oj (Dx L) p)) w):=by
 have HT:=hid (Lz A n cap L p w h hc hn ht);have HY:=hid fun W (hb:Below w.heap.size w W)=>Nm A n cap L W (h.on hb) hc hn ht;have aF:=tidy_le L;rw[h.len] at aF;have h1:=Y0 (L:=L) (p:=p);have h2:=Ww (L:=L) (p:=p);have aE:=ticks_tidy L;generalize Oj (Dx L) p=R at h1 h2 |-;generalize tkOf p L=tk at HT h1 h2;generalize tidy L=T at HY aF h2 aE;rw[<- aE] at ht;clear h aE;by_cases h0:tk=0
 ·have e:=h1 h0;subst e;subst h0;clear h1 h2 HY;go_in;go_wp2_with fail;refine HT.o.mono ?_;rintro e w1⟨rfl,aB⟩;go_wp2;go_ret;exact Ans.mk rfl aB
 have HR:=hid (h2 h0);have aQ:((tk:Int) == 0)=false:=Ak.2 (by omega);clear h1 h2;go_in;go_wp2_with fail;refine HT.o.mono ?_;rintro e w1⟨rfl,aB⟩;go_wp2_with fail;refine(HY.o w1 aB).mono ?_;rintro e w2⟨A1,c1,rfl,aC,aJ,aH,_⟩;generalize aN:T.length=m at aC aJ aF HR;go_wp2_with fail;refine(Po A1 m c1 T p w2 aC aJ (by omega) ht).mono ?_;rintro e w3⟨g,rfl,hV,aG,hg⟩;have aL:=aC.on aG;have HB:=hid (aB.trans ((aH.mono aB.size).trans (aG.mono (Ai aB.size aH.size))));clear aC aB aH aG hg HT HY aN;go_wp2;go_loopw [5,6,7,18] (fun a _ _ s wr=>∃ i k:Nat,i<=m/\s=.int .i64 i/\a=.int .i64 k/\k=mo p (fun i _=>wt p T i) T i/\wr=w3) (fun _ _ _ s _=>m - (intOf s).toNat)
 case atStart=>exact⟨0,0,by omega,rfl,rfl,rfl,rfl⟩
 obtain⟨i,k,hi,rfl,rfl,hk,hw⟩:=hrel;have aK:=hw.symm;clear hw;subst aK;by_cases aI:i < m
 ·obtain⟨ad,r,rfl,aR,hr,c0,c1⟩:=aL.at_ aI;have d0:=hV.cell i aI;by_cases hp:r.p=p
  ·have aA:=Vb (g:=fun i _=>wt p T i) hr hp;rw[<- hk] at aA;have aM:(r.p == p)=true:=Ck.2 hp;have aD:=hid aA;have aP:=hid hV;generalize wt p T i=x at d0 aD;clear hp aA hk hr hV;go_wp2;go_roundw
   case rel=>exact⟨i+1,max k x,by omega,by go_num,by first | (congr 1;done) | (congr 1;first | omega | (split <;> omega)),aD.o.symm,trivial⟩
   simp[intOf];omega
  have aA:=cq (g:=fun i _=>wt p T i) hr hp;rw[<- hk] at aA;have aM:(r.p == p)=false:=Ak.2 hp;have aD:=hid aA;have aP:=hid hV;clear hp aA hk hr hV;go_wp2;go_roundw
  case rel=>exact⟨i+1,k,by omega,by go_num,rfl,aD.o.symm,trivial⟩
  simp[intOf];omega
 obtain rfl:i=m:=by omega
 have hR:R=(k:Int):=by rw[HR.o,hk]
 have aO:=hid hR;clear hR hk;go_wp2;go_ret;exact Ans.mk (by rw[aO.o];rfl) HB.o
theorem Zi(A:Option Addr)(n cap:Nat)(L:List Rn)(p q:Int)(w:World)(h:RdR w w.heap.size A n L)(hc:n<=cap)(hn:n<=1048576)(ht:ticks L<=1099511627776):
  Calls Tryz.prog 155 #[.slice A n cap,.int .i64 p,.int .i64 q] w (Ans (.int .i64 (D9 (Dx L) p q)) w):=by
 have HT:=hid (Lz A n cap L p w h hc hn ht);have aF:=hid fun W (hb:Below w.heap.size w W)=>Lz A n cap L q W (h.on hb) hc hn ht;have HG:=hid fun W (hb:Below w.heap.size w W)=>Zj A n cap L q W (h.on hb) hc hn ht;have HY:=hid fun W (hb:Below w.heap.size w W)=>Nm A n cap L W (h.on hb) hc hn ht;have aL:=tidy_le L;rw[h.len] at aL;have h1:=Vf (L:=L) (p:=p) (q:=q);have h2:=S4 (L:=L) (p:=p) (q:=q);have h3:=ct (L:=L) (p:=p) (q:=q);have h4:tkOf p L≠0->p=q->D9 (Dx L) p q=Oj (Dx L) q+1/\0<=Oj (Dx L) q/\Oj (Dx L) q<=1099511627777:=by
  rintro e rfl;rw[Ww e,Kq e];refine⟨rfl,by omega,?_⟩;have e2:=S5 (Dx L) p p;rw[Kq e,Gc] at e2;omega
 have aJ:=ticks_tidy L;generalize Oj (Dx L) q=G at HG h4;generalize D9 (Dx L) p q=R at h1 h2 h3 h4 |-;have aD:p=q->tkOf p L=tkOf q L:=by rintro rfl;rfl
 generalize tkOf p L=tk at HT h1 h2 h3 h4 aD;generalize tkOf q L=aN at aF h2 h3 aD;generalize tidy L=T at HY aL h3 aJ;rw[<- aJ] at ht;clear h aJ;by_cases h0:tk=0
 ·have e:=h1 h0;subst e;subst h0;clear h1 h2 h3 h4 HY aF HG aD;go_in;go_wp2_with fail;refine HT.o.mono ?_;rintro e w1⟨rfl,aA⟩;go_wp2;go_ret;exact Ans.mk rfl aA
 have aZ:((tk:Int) == 0)=false:=Ak.2 (by omega);by_cases aM:aN=0
 ·have e:=h2 h0 aM;subst e;subst aM;clear h1 h2 h3 h4 HY HG aD;go_in;go_wp2_with fail;refine HT.o.mono ?_;rintro e w1⟨rfl,aA⟩;go_wp2_with fail;refine(aF.o w1 aA).mono ?_;rintro e w2⟨rfl,aB⟩;have HB:=hid (aA.trans (aB.mono aA.size));clear aA aB;go_wp2;go_ret;exact Ans.mk rfl HB.o
 have aT:((aN:Int) == 0)=false:=Ak.2 (by omega);by_cases aG:p=q
 ·obtain⟨e1,e2,e3⟩:=h4 h0 aG;subst aG;have HE:=hid e1;clear h1 h2 h3 h4 HY aD e1;go_in;go_wp2_with fail;refine HT.o.mono ?_;rintro e w1⟨rfl,aA⟩;go_wp2_with fail;refine(aF.o w1 aA).mono ?_;rintro e w2⟨rfl,aB⟩;have hb:=aA.trans (aB.mono aA.size);clear aA aB;go_wp2_with fail;refine(HG.o w2 hb).mono ?_;rintro e w3⟨rfl,aE⟩;have HB:=hid (hb.trans (aE.mono hb.size));clear hb aE;go_wp2_with fail;refine(J8 G 1 _ _ _ (by omega) (by omega) (by omega) rfl rfl).mono ?_;rintro e w4⟨rfl,rfl⟩;go_wp2;go_ret;exact Ans.mk (by rw[HE.o];rfl) HB.o
 have HR:=hid (h3 h0 aM aG);have bB:(p == q)=false:=Ak.2 aG;clear h1 h2 h3 h4 HG aD aG;go_in;go_wp2_with fail;refine HT.o.mono ?_;rintro e w1⟨rfl,aA⟩;go_wp2_with fail;refine(aF.o w1 aA).mono ?_;rintro e aQ⟨rfl,aB⟩;have hb:=aA.trans (aB.mono aA.size);clear aA aB;go_wp2_with fail;refine(HY.o aQ hb).mono ?_;rintro e w2⟨A1,c1,rfl,aH,aP,aB,_⟩;generalize aV:T.length=m at aH aP aL HR;go_wp2_with fail;refine(Po A1 m c1 T q w2 aH aP (by omega) ht).mono ?_;rintro e w3⟨g,rfl,hV,aE,hg⟩;have aU:=aH.on aE;have HB:=hid (hb.trans ((aB.mono hb.size).trans (aE.mono (Ai hb.size aB.size))));clear aH hb aB aE hg HT aF HY aV;go_wp2;go_loopw [7,8,9,31] (fun a _ _ s wr=>∃ i k:Nat,i<=m/\s=.int .i64 i/\a=.int .i64 k/\k=mo p (fun i n=>wt q T i+n) T i/\wr=w3) (fun _ _ _ s _=>m - (intOf s).toNat)
 case atStart=>exact⟨0,0,by omega,rfl,rfl,rfl,rfl⟩
 obtain⟨i,k,hi,rfl,rfl,hk,hw⟩:=hrel;have aR:=hw.symm;clear hw;subst aR;by_cases aO:i < m
 ·obtain⟨ad,r,rfl,bC,hr,c0,c1⟩:=aU.at_ aO;have d0:=hV.cell i aO;have hx:=mw q T i;have bA:r.n<=ticks T:=mem_ticks (An hr);by_cases hp:r.p=p
  ·have aC:=Vb (g:=fun i n=>wt q T i+n) hr hp;rw[<- hk] at aC;have aK:(r.p == p)=true:=Ck.2 hp;have aI:=hid aC;have aY:=hid hV;generalize wt q T i=x at d0 aI hx;clear hp aC hk hr hV;go_wp2_with fail;refine(J8 (x:Int) (r.n:Int) _ _ _ (by omega) (by omega) (by omega) rfl rfl).mono ?_;rintro e w4⟨rfl,rfl⟩;go_wp2;go_roundw
   case rel=>exact⟨i+1,max k (x+r.n),by omega,by go_num,by first | (congr 1;done) | (congr 1;first | omega | (split <;> omega)),aI.o.symm,trivial⟩
   simp[intOf];omega
  have aC:=cq (g:=fun i n=>wt q T i+n) hr hp;rw[<- hk] at aC;have aK:(r.p == p)=false:=Ak.2 hp;have aI:=hid aC;have aY:=hid hV;clear hp aC hk hr hV;go_wp2;go_roundw
  case rel=>exact⟨i+1,k,by omega,by go_num,rfl,aI.o.symm,trivial⟩
  simp[intOf];omega
 obtain rfl:i=m:=by omega
 have hR:R=(k:Int):=by rw[HR.o,hk]
 have aX:=hid hR;clear hR hk;go_wp2;go_ret;exact Ans.mk (by rw[aX.o];rfl) HB.o
theorem Vn(A:Option Addr)(n cap:Nat)(L:List Rn)(p:Int)(P:Nat)(w:World)(h:RdR w w.heap.size A n L)(hc:n<=cap)(hn:n<=1048576)(ht:ticks L<=1099511627776)(hP:1<=P)(cL:P<=1099511627776):
  Calls Tryz.prog 157 #[.slice A n cap,.int .i64 p,.int .i64 (P:Int)] w (Ans (.int .i64 ((Gh p P ⟨P,P,0⟩ (Dx L)).a:Nat)) w):=by
 obtain⟨R,hR⟩:∃ R,R=(Gh p P ⟨P,P,0⟩ (Dx L)).a:=⟨_,rfl⟩;rw[<- hR];have HR:=hid hR;have cD:=hid fun X=>jt (p:=p) hP X _ (Zh hP);have HL:=hid h.len;clear hR;have cK:0 < P:=hP;go_in;go_wp2;go_loopw [7,8,9,11,12,13,18] (fun a l m _ _ _ s wr=>∃ i sa sl sm:Nat,i<=n/\s=.int .i64 i/\a=.int .i64 sa/\l=.int .i64 sl/\m=.int .i64 sm/\Gh p P ⟨P,P,0⟩ (Dx (L.take i))=⟨sa,sl,sm⟩/\Below w.heap.size w wr) (fun _ _ _ _ _ _ s _=>n - (intOf s).toNat)
 case atStart=>exact⟨0,P,P,0,by omega,rfl,rfl,rfl,rfl,rfl,Aj _ _⟩
 obtain⟨i,sa,sl,sm,hi,rfl,rfl,rfl,rfl,aP,hb⟩:=hrel;by_cases bW:i < n
 ·obtain⟨ad,r,rfl,cJ,hr,c0,c1⟩:=(h.on hb).at_ bW;have aJ:=I7 hr;obtain⟨TG,bI⟩:∃ TG,TG=Gh p P ⟨P,P,0⟩ (Dx (L.take (i+1))):=⟨_,rfl⟩;have aG:Gh p P ⟨sa,sl,sm⟩ (List.replicate r.n r.p)=TG:=by rw[bI,aJ,Ja,aP]
  obtain⟨b1,b2,b3,b4⟩:=cD.o (Dx (L.take i));rw[aP] at b1 b2 b3 b4;dsimp only at b1 b2 b3 b4;have bS:r.n<=ticks L:=mem_ticks (An hr);obtain⟨rp,rn⟩:=r;dsimp only at c0 c1 aG bS;have bM:=bl1 wr (.cells #[.int .i64 rp,.int .i64 (rn:Int)] 129);have bH:=hb.trans (bM.mono hb.size);have m0:(wr.alloc (.cells #[.int .i64 rp,.int .i64 (rn:Int)] 129)).cell? ⟨wr.heap.size,0,none⟩=some (.int .i64 rp):=Ab _ _ _ _ _;have m1:(wr.alloc (.cells #[.int .i64 rp,.int .i64 (rn:Int)] 129)).cell? ⟨wr.heap.size,1,none⟩=some (.int .i64 (rn:Int)):=Ab _ _ _ _ _;have cC:=hid bI;have bN:=hid aG;clear bI aG aP aJ hr bM;go_upto_region 5 with fail;generalize wr.alloc (.cells #[.int .i64 rp,.int .i64 (rn:Int)] 129)=W1 at m0 m1 bH |-;generalize wr.heap.size=gx at m0 m1 |-;have cE:=hid bH;clear bH hb c0 c1;go_wp2;clear m1;go_loopw [7,8,9,12,13] (fun a l m nn _ wr=>∃ k sa sl sm:Nat,nn=.int .i64 k/\a=.int .i64 sa/\l=.int .i64 sl/\m=.int .i64 sm/\Gh p P ⟨sa,sl,sm⟩ (List.replicate k rp)=TG/\sa<=P/\1<=sl/\sl<=P/\sm+sl<=P/\k<=rn/\wr=W1) (fun _ _ _ nn _ _=>(intOf nn).toNat)
  case atStart=>exact⟨rn,sa,sl,sm,rfl,rfl,rfl,rfl,bN.o,b1,b2,b3,b4,Ag _,rfl⟩
  clear bN b1 b2 b3 b4;obtain⟨k,sa,sl,sm,rfl,rfl,rfl,rfl,aG,b1,b2,b3,b4,cH,hw⟩:=hrel;have bP:=hw.symm;clear hw;subst bP;by_cases bL:k=0
  ·subst bL;have aV:TG=⟨sa,sl,sm⟩:=aG.symm;have bJ:=hid aV
   clear aV aG;go_wp2;go_roundw
   case rel=>exact⟨i+1,sa,sl,sm,by omega,by go_num,rfl,rfl,rfl,by rw[<- cC.o,bJ.o],cE.o⟩
   simp[intOf];omega
  have cI:0 < k:=by omega
  clear bL;by_cases bY:k < sl
  ·obtain⟨l2,bE⟩:∃ l2,l2=sl - k:=⟨_,rfl⟩;have bK:0 < l2:=by omega
   have bD:min (k:Int) (sl:Int)=(k:Int):=by omega
   have aU:(if (sl:Int) < (k:Int) then (sl:Int) else (k:Int))=(k:Int):=by rw[if_neg (by omega)]
   have cG:(sl:Int) - (k:Int)=(l2:Int):=by omega
   have aA:=(Z1 (p:=p) (x:=rp) (P:=P) (a:=sa) (m:=sm) bY).symm.trans aG;rw[<- bE] at aA;have aZ:=hid bE;clear bE aG;by_cases hp:rp=p
   ·rw[if_pos hp] at aA;have bB:(rp == p)=true:=Ck.2 hp;have aD:=hid aA;clear aA hp;go_wp2;go_roundw
    case rel=>exact⟨0,sa,l2,sm+k,by go_num,rfl,by go_num,by go_num,aD.o,b1,bK,by have:=aZ.o;omega,by have:=aZ.o;omega,by omega,trivial⟩
    simp[intOf];omega
   rw[if_neg hp] at aA;have bB:(rp == p)=false:=Ak.2 hp;have aD:=hid aA;clear aA hp;go_wp2;go_roundw
   case rel=>exact⟨0,sa,l2,sm,by go_num,rfl,by go_num,by go_num,aD.o,b1,bK,by have:=aZ.o;omega,by have:=aZ.o;omega,by omega,trivial⟩
   simp[intOf];omega
  obtain⟨k2,bF⟩:∃ k2,k2=k - sl:=⟨_,rfl⟩;have bD:min (k:Int) (sl:Int)=(sl:Int):=by omega
  have aU:(if sl < k then (sl:Int) else (k:Int))=(sl:Int):=by split <;> omega
  have bX:(k:Int) - (sl:Int)=(k2:Int):=by omega
  have aA:=(K6 (p:=p) (x:=rp) (P:=P) (a:=sa) (m:=sm) (show sl<=k by omega) b2).symm.trans aG;rw[<- bF] at aA;have aH:=hid bF;clear bF aG;by_cases hp:rp=p
  ·rw[if_pos hp] at aA;have bB:(rp == p)=true:=Ck.2 hp;have aT:(sm:Int)+(sl:Int)=((sm+sl:Nat):Int):=by omega
   have bV:sm+sl<=P:=b4;clear hp;have bR:sm+sl<=P:=b4;obtain⟨mm,aQ⟩:∃ mm,mm=sm+sl:=⟨_,rfl⟩;rw[<- aQ] at aA aT;have bC:mm<=P:=by omega
   have cM:=hid aQ;clear aQ;have aE:min (sa:Int) (mm:Int)=((min sa mm:Nat):Int):=by omega
   have aB:(if mm < sa then (mm:Int) else (sa:Int))=((min sa mm:Nat):Int):=by split <;> omega
   obtain⟨a2,aN⟩:∃ a2,a2=min sa mm:=⟨_,rfl⟩;rw[<- aN] at aA aE aB;have aF:a2<=P:=by omega
   have cF:=hid aN;clear aN;obtain⟨qq,aL⟩:∃ qq,qq=k2 / P:=⟨_,rfl⟩;have aK:(k2:Int) / (P:Int)=(qq:Int):=by rw[aL,Int.natCast_ediv]
   have bQ:(k2:Int).tdiv (P:Int)=(qq:Int):=by rw[Int.tdiv_eq_ediv_of_nonneg (C5 _)];exact aK
   have bU:qq<=1099511627776:=by
    have h1:k2 / P<=k2:=Nat.div_le_self _ _;have h2:=aH.o;omega
   have bO:IntKind.i64.wrap (qq:Int)=(qq:Int):=Dt _ (by omega);by_cases hq:1 < k2 / P
   ·have aC:=(Wg (p:=p) (x:=rp) (P:=P) (a:=a2) (n:=k2) hP hq).symm.trans aA;obtain⟨rr,aI⟩:∃ rr,rr=k2 % P:=⟨_,rfl⟩;rw[<- aI] at aC;have bA:1 < qq:=by omega
    have aM:(k2:Int) % (P:Int)=(rr:Int):=by rw[aI,Di]
    have aR:(k2:Int).tmod (P:Int)=(rr:Int):=by rw[Ce (C5 _)];exact aM
    have bT:rr < P:=by rw[aI];exact Nat.mod_lt _ hP
    have bG:=Nat.div_add_mod k2 P;have aX:P+rr<=k2:=by
     have:P*2<=P*(k2 / P):=Do _ hq;omega
    have aO:=hid aC;have aY:=hid aX;clear aA aC aI bG hq aX aL;go_wp2;go_roundw
    case rel=>exact⟨P+rr,a2,P,0,by go_num,by go_num,rfl,rfl,aO.o,aF,hP,Ag _,by omega,by have:=aY.o;have:=aH.o;omega,trivial⟩
    simp[intOf];have:=aY.o;have:=aH.o;omega
   have bA:¬ 1 < qq:=by omega
   clear aL;have aD:=hid aA;clear aA hq;go_wp2;go_roundw
   case rel=>exact⟨k2,a2,P,0,by go_num,by go_num,rfl,rfl,aD.o,aF,hP,Ag _,by omega,by have:=aH.o;omega,trivial⟩
   simp[intOf];have:=aH.o;omega
  rw[if_neg hp] at aA;have bB:(rp == p)=false:=Ak.2 hp;obtain⟨mm,aQ⟩:∃ mm,mm=sm:=⟨_,rfl⟩;rw[Nat.add_zero,<- aQ] at aA;subst aQ;have bC:mm<=P:=by omega
  clear hp;have aE:min (sa:Int) (mm:Int)=((min sa mm:Nat):Int):=by omega
  have aB:(if mm < sa then (mm:Int) else (sa:Int))=((min sa mm:Nat):Int):=by split <;> omega
  obtain⟨a2,aN⟩:∃ a2,a2=min sa mm:=⟨_,rfl⟩;rw[<- aN] at aA aE aB;have aF:a2<=P:=by omega
  have cF:=hid aN;clear aN;obtain⟨qq,aL⟩:∃ qq,qq=k2 / P:=⟨_,rfl⟩;have aK:(k2:Int) / (P:Int)=(qq:Int):=by rw[aL,Int.natCast_ediv]
  have bQ:(k2:Int).tdiv (P:Int)=(qq:Int):=by rw[Int.tdiv_eq_ediv_of_nonneg (C5 _)];exact aK
  have bU:qq<=1099511627776:=by
   have h1:k2 / P<=k2:=Nat.div_le_self _ _;have h2:=aH.o;omega
  have bO:IntKind.i64.wrap (qq:Int)=(qq:Int):=Dt _ (by omega);by_cases hq:1 < k2 / P
  ·have aC:=(Wg (p:=p) (x:=rp) (P:=P) (a:=a2) (n:=k2) hP hq).symm.trans aA;obtain⟨rr,aI⟩:∃ rr,rr=k2 % P:=⟨_,rfl⟩;rw[<- aI] at aC;have bA:1 < qq:=by omega
   have aM:(k2:Int) % (P:Int)=(rr:Int):=by rw[aI,Di]
   have aR:(k2:Int).tmod (P:Int)=(rr:Int):=by rw[Ce (C5 _)];exact aM
   have bT:rr < P:=by rw[aI];exact Nat.mod_lt _ hP
   have bG:=Nat.div_add_mod k2 P;have aX:P+rr<=k2:=by
    have:P*2<=P*(k2 / P):=Do _ hq;omega
   have aO:=hid aC;have aY:=hid aX;clear aA aC aI bG hq aX aL;go_wp2;go_roundw
   case rel=>exact⟨P+rr,a2,P,0,by go_num,by go_num,rfl,rfl,aO.o,aF,hP,Ag _,by omega,by have:=aY.o;have:=aH.o;omega,trivial⟩
   simp[intOf];have:=aY.o;have:=aH.o;omega
  have bA:¬ 1 < qq:=by omega
  clear aL;have aD:=hid aA;clear aA hq;go_wp2;go_roundw
  case rel=>exact⟨k2,a2,P,0,by go_num,by go_num,rfl,rfl,aD.o,aF,hP,Ag _,by omega,by have:=aH.o;omega,trivial⟩
  simp[intOf];have:=aH.o;omega
 have bZ:n<=i:=by omega
 have e:L.take i=L:=Bd (by rw[HL.o];exact bZ);rw[e] at aP;have cA:R=sa:=by rw[HR.o,aP]
 subst cA;clear aP e HR;go_wp2;go_ret;exact Ans.mk rfl hb
theorem Tj(A:Option Addr)(n cap:Nat)(L:List Rn)(p z:Int)(w:World)(h:RdR w w.heap.size A n L)(hc:n<=cap)(hn:n<=1048576)(ht:ticks L<=1099511627776)(hz:Ef z):
  Calls Tryz.prog 143 #[.slice A n cap,.int .i64 p,.int .i64 z] w (Ans (.int .i64 (Fr (Dx L) p z)) w):=by
 have HT:=hid (Vd A n cap L w h hc hn ht);obtain⟨R,hR⟩:∃ R,R=Fr (Dx L) p z:=⟨_,rfl⟩;rw[<- hR];have aA:=Gc L;by_cases h0:ticks L=0
 ·have e:R=-1:=by
   rw[hR];unfold Fr;rw[aA];by_cases aC:z < 1
   ·rw[if_pos aC]
   rw[if_neg aC,if_pos h0]
  subst e;rw[h0] at HT;clear hR aA h0;go_in;go_wp2_with fail;refine HT.o.mono ?_;rintro e w1⟨rfl,aB⟩;go_wp2;go_ret;exact Ans.mk rfl aB
 by_cases aC:z < 1
 ·have e:R=-1:=by rw[hR];unfold Fr;rw[if_pos aC]
  subst e;have aJ:decide (z < 1)=true:=Ae aC;generalize ticks L=T at HT ht h0;have aF:decide ((T:Int) < 1)=false:=Ac (by omega);have aI:0 < T:=by omega
  clear hR aA h0;go_in;go_wp2_with fail;refine HT.o.mono ?_;rintro e w1⟨rfl,aB⟩;go_wp2;go_ret;exact Ans.mk rfl aB
 obtain⟨P,rfl⟩:∃ P:Nat,z=(P:Int):=⟨z.toNat,by omega⟩;have hP:1<=P:=by omega
 have aJ:decide ((P:Int) < 1)=false:=Ac aC;have aM:¬ P=0:=by omega
 by_cases hm:ticks L % P=0
 ·have aL:P<=ticks L:=Nat.le_of_dvd (by omega) (Nat.dvd_of_mod_eq_zero hm);have e:R=((Gh p P ⟨P,P,0⟩ (Dx L)).a:Int):=by
   rw[hR];unfold Fr;rw[aA,if_neg (by omega),if_neg h0,Bx,if_neg (by omega),fw hP (by rw[aA];omega) (by rw[aA];exact hm),aA]
  rw[e];have HF:=hid fun W (hb:Below w.heap.size w W)=>Vn A n cap L p P W (h.on hb) hc hn ht hP (by omega);generalize (Gh p P ⟨P,P,0⟩ (Dx L)).a=v at HF |-;have aD:((ticks L:Nat):Int).tmod (P:Int)=0:=by rw[Ce (C5 _),<- Di,hm];rfl
  have aE:(((ticks L:Nat):Int).tmod (P:Int) != 0)=false:=by rw[aD];rfl
  generalize ticks L=T at HT ht h0 aD aE;have aF:decide ((T:Int) < 1)=false:=Ac (by omega);have aI:0 < T:=by omega
  clear hR aA h0 e hm aL;go_in;go_wp2_with fail;refine HT.o.mono ?_;rintro e w1⟨rfl,aB⟩;go_wp2_with fail;refine(HF.o w1 aB).mono ?_;rintro e w2⟨rfl,aH⟩;have HB:=hid (aB.trans (aH.mono aB.size));clear aB aH;go_wp2;go_ret;exact Ans.mk rfl HB.o
 have e:R=-1:=by
  rw[hR];unfold Fr;rw[aA,if_neg (by omega),if_neg h0,Bx,if_pos hm]
 subst e;have aD:¬ ((ticks L:Nat):Int).tmod (P:Int)=0:=by rw[Ce (C5 _),<- Di];omega
 have aE:(((ticks L:Nat):Int).tmod (P:Int) != 0)=true:=Bz.2 aD;have aG:¬ ((ticks L:Nat):Int) % (P:Int)=0:=by rw[<- Di];omega
 have aK:(((ticks L:Nat):Int) % (P:Int) != 0)=true:=Bz.2 aG;generalize ticks L=T at HT ht h0 aD aE aG aK;have aF:decide ((T:Int) < 1)=false:=Ac (by omega);have aI:0 < T:=by omega
 clear hR aA h0 hm;go_in;go_wp2_with fail;refine HT.o.mono ?_;rintro e w1⟨rfl,aB⟩;go_wp2;go_ret;exact Ans.mk rfl aB
structure Qbm:Prop where
 late:∀(A:Option Addr) (n c:Nat) (L:List Rn) (p q:Int) (w:World),RdR w w.heap.size A n L->n<=c->n<=1048576->ticks L<=8192->Calls Tryz.prog 155 #[.slice A n c,.int .i64 p,.int .i64 q] w (Ans (.int .i64 (D9 (Dx L) p q)) w)
 budget:∀(A:Option Addr) (n c:Nat) (L:List Rn) (p z:Int) (w:World),RdR w w.heap.size A n L->n<=c->n<=1048576->ticks L<=8192->Ef z->Calls Tryz.prog 143 #[.slice A n c,.int .i64 p,.int .i64 z] w (Ans (.int .i64 (Fr (Dx L) p z)) w)
 gaps:∀(A:Option Addr) (n c:Nat) (L:List Rn) (p:Int) (w:World),RdR w w.heap.size A n L->n<=c->n<=1048576->ticks L<=8192->Calls Tryz.prog 166 #[.slice A n c,.int .i64 p] w (Ans (.int .i64 (Oj (Dx L) p)) w)
 holds:∀(A1 A2 A3 A4:Option Addr) (n1 n2 n3 n4 c1 c2 c3 c4:Nat) (P:List PtV) (C:List ChV) (L:List Rn) (w:World),RdB pcl w w.heap.size A1 n1 P->RdB cc w w.heap.size A2 n2 C->RdR w w.heap.size A4 n4 L->
  n1<=1048576->n2<=1048576->n4<=c4->n4<=1048576->ticks L<=8192->(∀ x∈P,Ef x.per)->Calls Tryz.prog 126 #[.agg #[.slice A1 n1 c1,.slice A2 n2 c2,.slice A3 n3 c3],.slice A4 n4 c4] w (Ans (.int .i64 (E4 (Dx L) P C)) w)
